import PyProof.Rows.All
import Wide.All
import OpenK.AllK
import Wide.FinOn
import HandS.ForMost
import HandS.Evl
import HandS.Conv
import HandS.Style
import HandS.IsInst
import HandS.SortRule
import HandS.ExcInit
import HandS.WordsExc
import HandS.ExcField
import KE.KExcIs
import KE.KIsAll
import HandS.ExcIs
import HandS.More
import HandS.ListItems
import HandS.SetFor
import HandS.TupAny
import HandS.Deep
import HandS.Text
import HandS.RaiseMore
import HandS.Strs
import HandS.Dict
import HandS.DictComp
import HandS.NoneIn
import HandS.Small
import KE.KDictKeyed
import KE.SortData
import KE.KDictCopyH
import KE.KDictSum
import KE.DataMinMax
import KE.DataCmp
import PySem.Challenge.RW_heldloops_k04_loops_that_come_undone
set_option Elab.async false
set_option linter.all false

set_option maxRecDepth 100000
set_option maxHeartbeats 2000000
/-! The shallow layer: a def of the text as a function over plain data and a store of cells. -/
namespace L2
open PySem PySem.Spec PyProof.Rows
/-- a dict whose keys are tuples of texts, whole numbers and such tuples: at d, its keys (told, and where they stand) and values -/
def DNat (P : Program) (w : World) (h : Heap) (d : Addr) (xs : List (NestedKey × Addr × V)) : Prop := xs.length ≤ sizeLine ∧ (d == sysModules) = false ∧
  ∃ us : List (NestedKey × Addr × Value), Paired (fun (p : NestedKey × Addr × V) (q : NestedKey × Addr × Value) => p.1 = q.1 ∧ p.2.1 = q.2.1 ∧ RelV p.2.2 q.2.2) xs us ∧
    ∃ o es ep, h.get? d = some o ∧ o.ExactDict ∧ o.data = .dict es ep ∧ es.toList = us.map (entryOfKey (nestedKind P w)) ∧ (us.map (·.1)).Nodup
def DN (P : Program) (w : World) (d : Addr) (xs : List (NestedKey × Addr × V)) : HO := .ext fun h => DNat P w h d xs
end L2
namespace Sh
open PySem L2 Evl
/-- the program and the world that the cells speak of -/
class Wd where
  P : Program
  w : World
variable [Wd]

/-- plain data, and the number of a cell -/
inductive W where
  | non | bl (b : Bool) | int (i : Int) | str (x : Str) | tup (xs : List W) | lst (xs : List W) | fz (xs : List W) | ftp (xs : List W) | cell (n : Nat)
  | exn (a dd : Addr) (ns : List Str) (ws : List W) | xob (cls : Str) (ns : List Str) (ws : List W)
/-- what a cell holds -/
inductive C where
  | dead | lst (xs : List W) | dK (kvs : List (Key × W)) | dT (kvs : List (List Key × W)) | ins (cls : Str) (fs : List (Str × W)) | dN (kvs : List (W × W))
abbrev Store := List C
abbrev Env := List (Option W)
structure Exn where
  cls : Str
  fs : List (Str × W)
inductive Out (α : Type) where
  | stuck | ok (a : α) (st : Store) | exc (x : Exn) (st : Store)
abbrev M (α : Type) := Store → Out α
def Out.bind {α β : Type} (o : Out α) (f : α → M β) : Out β := match o with
  | .stuck => .stuck
  | .ok a st => f a st
  | .exc x st => .exc x st
@[simp] theorem Out.bind_ok {α β : Type} (a : α) (st : Store) (f : α → M β) : (Out.ok a st).bind f = f a st := rfl
@[simp] theorem Out.bind_stuck {α β : Type} (f : α → M β) : (Out.stuck : Out α).bind f = .stuck := rfl
@[simp] theorem Out.bind_exc {α β : Type} (x : Exn) (st : Store) (f : α → M β) : (Out.exc x st : Out α).bind f = .exc x st := rfl
def Out.nox {α : Type} (o : Out α) : Out α := match o with
  | .exc _ _ => .stuck
  | o => o
@[simp] theorem Out.nox_ok {α : Type} (a : α) (st : Store) : (Out.ok a st).nox = .ok a st := rfl

mutual
inductive RW (K : PySem.W.Frag) (G : Hp) (m : List Addr) : W → V → Prop
  | non : RW K G m .non .non
  | bl (b : Bool) : RW K G m (.bl b) (.bl b)
  | int (i : Int) : RW K G m (.int i) (.int i)
  | str (x : Str) : RW K G m (.str x) (.str x)
  | tup {p : Addr} {vs : List V} {xs : List W} : G p = some (.tup vs) → RWs K G m xs vs → RW K G m (.tup xs) (.ref p)
  | ftp {p : Addr} {vs : List V} {xs : List W} : SqT K G p vs → RWs K G m xs vs → RW K G m (.ftp xs) (.ref p)
  | lst {p : Addr} {vs : List V} {xs : List W} : G p = some (.lst vs) → RWs K G m xs vs → RW K G m (.lst xs) (.ref p)
  | fz {p : Addr} {vs : List V} {xs : List W} : SqL K G p vs → RWs K G m xs vs → RW K G m (.fz xs) (.ref p)
  | cell {n : Nat} {a : Addr} : m[n]? = some a → RW K G m (.cell n) (.ref a)
  | exn {a dd : Addr} {ns : List Str} {ws : List W} {vs : List V} : G dd = some (.xd (ns.zip vs)) → RWs K G m ws vs → RW K G m (.exn a dd ns ws) (.ref a)
  | xob {x : Str} {Cl a dd : Addr} {ns : List Str} {ws : List W} {vs : List V} : PySem.W.nsIn K mainGlobals x = some (some (.ref Cl)) → G a = some (exo a Cl (some dd)) → G dd = some (exd dd (ns.zip vs)) → RWs K G m ws vs → RW K G m (.xob x ns ws) (.ref a)
inductive RWs (K : PySem.W.Frag) (G : Hp) (m : List Addr) : List W → List V → Prop
  | nil : RWs K G m [] []
  | cons {x : W} {v : V} {xs : List W} {vs : List V} : RW K G m x v → RWs K G m xs vs → RWs K G m (x :: xs) (v :: vs)
end

structure Ext (G : Hp) (m : List Addr) (G' : Hp) (m' : List Addr) : Prop where
  ex : Ex G G'
  mm : ∀ (n : Nat) (a : Addr), m[n]? = some a → m'[n]? = some a
theorem Ext.refl (G : Hp) (m : List Addr) : Ext G m G m := ⟨Ex.refl G, fun _ _ h => h⟩
theorem Ext.trans {G G1 G2 : Hp} {m m1 m2 : List Addr} (a : Ext G m G1 m1) (b : Ext G1 m1 G2 m2) : Ext G m G2 m2 :=
  ⟨a.ex.trans b.ex, fun n c h => b.mm n c (a.mm n c h)⟩

section
variable {K : PySem.W.Frag} {G G' : Hp} {m m' : List Addr}
mutual
theorem RW.mono (e : Ext G m G' m') : ∀ {x : W} {v : V}, RW K G m x v → RW K G' m' x v
  | _, _, .non => .non
  | _, _, .bl b => .bl b
  | _, _, .int i => .int i
  | _, _, .str x => .str x
  | _, _, .tup h r => .tup (e.ex _ _ h) (RWs.mono e r)
  | _, _, .ftp h r => .ftp (ex_t e.ex h) (RWs.mono e r)
  | _, _, .lst h r => .lst (e.ex _ _ h) (RWs.mono e r)
  | _, _, .fz h r => .fz (ex_l e.ex h) (RWs.mono e r)
  | _, _, .cell h => .cell (e.mm _ _ h)
  | _, _, .exn h r => .exn (e.ex _ _ h) (RWs.mono e r)
  | _, _, .xob k h g r => .xob k (e.ex _ _ h) (e.ex _ _ g) (RWs.mono e r)
theorem RWs.mono (e : Ext G m G' m') : ∀ {x : List W} {v : List V}, RWs K G m x v → RWs K G' m' x v
  | _, _, .nil => .nil
  | _, _, .cons h r => .cons (RW.mono e h) (RWs.mono e r)
end
theorem RWs.length : ∀ {xs : List W} {vs : List V}, RWs K G m xs vs → xs.length = vs.length
  | _, _, .nil => rfl
  | _, _, .cons _ r => by rw [List.length_cons, List.length_cons, RWs.length r]
theorem RWs.append : ∀ {xs ys : List W} {vs us : List V}, RWs K G m xs vs → RWs K G m ys us → RWs K G m (xs ++ ys) (vs ++ us)
  | _, _, _, _, .nil, s => s
  | _, _, _, _, .cons h r, s => .cons h (RWs.append r s)
theorem RWs.get : ∀ {xs : List W} {vs : List V} {i : Nat} {x : W}, RWs K G m xs vs → xs[i]? = some x → ∃ v, vs[i]? = some v ∧ RW K G m x v
  | _, _, _, _, .nil, e => by simp at e
  | _, _, 0, _, .cons h _, e => by simp at e; subst e; exact ⟨_, rfl, h⟩
  | _, _, i + 1, _, .cons _ r, e => by
    obtain ⟨v, h1, h2⟩ := RWs.get (i := i) r (by simpa using e)
    exact ⟨v, by simpa using h1, h2⟩
theorem RWs.get' {xs : List W} {vs : List V} {i : Nat} {v : V} (r : RWs K G m xs vs) (e : vs[i]? = some v) : ∃ x, xs[i]? = some x ∧ RW K G m x v := by
  have hl := r.length
  have hi : i < xs.length := by
    rw [hl]
    exact (List.getElem?_eq_some_iff.mp e).1
  obtain ⟨u, h1, h2⟩ := r.get (List.getElem?_eq_getElem hi)
  rw [e] at h1
  cases h1
  exact ⟨_, List.getElem?_eq_getElem hi, h2⟩
theorem RWs.set {x : W} {v : V} (h : RW K G m x v) : ∀ {xs : List W} {vs : List V} (i : Nat), RWs K G m xs vs → RWs K G m (xs.set i x) (vs.set i v)
  | _, _, _, .nil => .nil
  | _, _, 0, .cons _ r => .cons h r
  | _, _, i + 1, .cons a r => .cons a (RWs.set h i r)
theorem RWs.take : ∀ {xs : List W} {vs : List V} (n : Nat), RWs K G m xs vs → RWs K G m (xs.take n) (vs.take n)
  | _, _, 0, _ => .nil
  | _, _, _ + 1, .nil => .nil
  | _, _, n + 1, .cons a r => .cons a (RWs.take n r)
theorem RWs.drop : ∀ {xs : List W} {vs : List V} (n : Nat), RWs K G m xs vs → RWs K G m (xs.drop n) (vs.drop n)
  | _, _, 0, r => r
  | _, _, _ + 1, .nil => .nil
  | _, _, n + 1, .cons _ r => RWs.drop n r
theorem RWs.reverse {xs : List W} {vs : List V} (r : RWs K G m xs vs) : RWs K G m xs.reverse vs.reverse := by
  induction xs generalizing vs with
  | nil => cases r; exact .nil
  | cons x xs ih =>
    cases r with
    | cons h r =>
      rw [List.reverse_cons, List.reverse_cons]
      exact (ih r).append (.cons h .nil)
theorem RWs.eraseIdx : ∀ {xs : List W} {vs : List V} (i : Nat), RWs K G m xs vs → RWs K G m (xs.eraseIdx i) (vs.eraseIdx i)
  | _, _, _, .nil => .nil
  | _, _, 0, .cons _ r => r
  | _, _, i + 1, .cons a r => .cons a (RWs.eraseIdx i r)
theorem RWs.dropLast {xs : List W} {vs : List V} (r : RWs K G m xs vs) : RWs K G m xs.dropLast vs.dropLast := by
  rw [List.dropLast_eq_take, List.dropLast_eq_take, r.length]
  exact r.take _
theorem RWs.rep {xs : List W} {vs : List V} (r : RWs K G m xs vs) : ∀ k : Nat, RWs K G m (List.replicate k xs).flatten (List.replicate k vs).flatten
  | 0 => .nil
  | k + 1 => by
    rw [List.replicate_succ, List.replicate_succ, List.flatten_cons, List.flatten_cons]
    exact r.append (RWs.rep r k)
end

/-- keyed entries -/
inductive RKs {κ : Type} (K : PySem.W.Frag) (G : Hp) (m : List Addr) : List (κ × W) → List (κ × V) → Prop
  | nil : RKs K G m [] []
  | cons {k : κ} {x : W} {v : V} {xs : List (κ × W)} {vs : List (κ × V)} : RW K G m x v → RKs K G m xs vs → RKs K G m ((k, x) :: xs) ((k, v) :: vs)
theorem RKs.mono {κ : Type} {K : PySem.W.Frag} {G G' : Hp} {m m' : List Addr} (e : Ext G m G' m') : ∀ {xs : List (κ × W)} {vs : List (κ × V)}, RKs K G m xs vs → RKs K G' m' xs vs
  | _, _, .nil => .nil
  | _, _, .cons h r => .cons (h.mono e) (RKs.mono e r)

mutual
/-- a key of a dict, told -/
def nkW : W → Option NestedKey
  | .non => some .none
  | .int i => some (.num i)
  | .str x => some (.text x)
  | .tup xs => (nkWs xs).map .tup
  | _ => none
def nkWs : List W → Option (List NestedKey)
  | [] => some []
  | x :: xs => (nkW x).bind fun k => (nkWs xs).map fun ks => k :: ks
end
/-- entries of such a dict -/
inductive RNs (K : PySem.W.Frag) (G : Hp) (m : List Addr) : List (W × W) → List (NestedKey × Addr × V) → Prop
  | nil : RNs K G m [] []
  | cons {kw x : W} {k : NestedKey} {ka : Addr} {v : V} {xs : List (W × W)} {vs : List (NestedKey × Addr × V)} : nkW kw = some k → k.depth ≤ 8 → RW K G m kw (.ref ka) → RW K G m x v → RNs K G m xs vs → RNs K G m ((kw, x) :: xs) ((k, ka, v) :: vs)
theorem RNs.mono {K : PySem.W.Frag} {G G' : Hp} {m m' : List Addr} (e : Ext G m G' m') : ∀ {xs : List (W × W)} {vs : List (NestedKey × Addr × V)}, RNs K G m xs vs → RNs K G' m' xs vs
  | _, _, .nil => .nil
  | _, _, .cons h1 h2 h3 h4 r => .cons h1 h2 (h3.mono e) (h4.mono e) (RNs.mono e r)

def C.live : C → Prop
  | .dead => False
  | _ => True

/-- the cell's content stands at a -/
def COk (K : PySem.W.Frag) (mg : Str → Option Value) (G : Hp) (m : List Addr) (H : Hp) (a : Addr) : C → Prop
  | .dead => True
  | .lst xs => G a = none ∧ ∃ vs, H a = some (.lst vs) ∧ RWs K G m xs vs
  | .dK kvs => G a = none ∧ ∃ vs, H a = some (.dK vs) ∧ RKs K G m kvs vs
  | .dT kvs => G a = none ∧ ∃ vs, H a = some (.dT vs) ∧ RKs K G m kvs vs
  | .ins cls fs => G a = none ∧ ∃ Cl dx vs, mg cls = some (.ref Cl) ∧ H a = some (.ins Cl dx vs) ∧ RKs K G m fs vs
  | .dN kvs => G a = none ∧ ∃ vs, H a = some (DN Wd.P Wd.w a vs) ∧ RNs K G m kvs vs

structure Sim (K : PySem.W.Frag) (mg : Str → Option Value) (F G : Hp) (m : List Addr) (st : Store) (H : Hp) : Prop where
  ex : Ex G H
  exF : Ex F H
  dj : ∀ (b : Addr) (o : HO), F b = some o → G b = none
  fr : ∀ (n : Nat) (c : C) (a : Addr), st[n]? = some c → c.live → m[n]? = some a → F a = none
  len : m.length = st.length
  ok : ∀ (n : Nat) (c : C) (a : Addr), st[n]? = some c → m[n]? = some a → COk K mg G m H a c
  inj : ∀ (i j : Nat) (a : Addr) (c c' : C), st[i]? = some c → st[j]? = some c' → c.live → c'.live → m[i]? = some a → m[j]? = some a → i = j

section
variable {K : PySem.W.Frag} {mg : Str → Option Value} {F G G' : Hp} {m m' : List Addr} {st : Store} {H H' : Hp} {a p : Addr} {c c' : C} {o : HO} {n : Nat}
theorem COk.mono (e : Ext G m G' m') (hg : c.live → G' a = none) (hh : c.live → H' a = H a) (h : COk K mg G m H a c) : COk K mg G' m' H' a c := by
  cases c with
  | dead => exact True.intro
  | lst xs =>
    obtain ⟨_, vs, h1, h2⟩ := h
    exact ⟨hg True.intro, vs, (hh True.intro).trans h1, h2.mono e⟩
  | dK xs =>
    obtain ⟨_, vs, h1, h2⟩ := h
    exact ⟨hg True.intro, vs, (hh True.intro).trans h1, h2.mono e⟩
  | dT xs =>
    obtain ⟨_, vs, h1, h2⟩ := h
    exact ⟨hg True.intro, vs, (hh True.intro).trans h1, h2.mono e⟩
  | ins cls fs =>
    obtain ⟨_, Cl, dx, vs, h0, h1, h2⟩ := h
    exact ⟨hg True.intro, Cl, dx, vs, h0, (hh True.intro).trans h1, h2.mono e⟩
  | dN xs =>
    obtain ⟨_, vs, h1, h2⟩ := h
    exact ⟨hg True.intro, vs, (hh True.intro).trans h1, h2.mono e⟩
theorem COk.some (h : COk K mg G m H a c) (l : c.live) : G a = none ∧ ∃ o, H a = some o := by
  cases c with
  | dead => exact l.elim
  | lst xs => obtain ⟨g, vs, h1, _⟩ := h; exact ⟨g, _, h1⟩
  | dK xs => obtain ⟨g, vs, h1, _⟩ := h; exact ⟨g, _, h1⟩
  | dT xs => obtain ⟨g, vs, h1, _⟩ := h; exact ⟨g, _, h1⟩
  | ins cls fs => obtain ⟨g, Cl, dx, vs, _, h1, _⟩ := h; exact ⟨g, _, h1⟩
  | dN xs => obtain ⟨g, vs, h1, _⟩ := h; exact ⟨g, _, h1⟩
theorem C.live_or (c : C) : c = .dead ∨ c.live := by
  cases c <;> first | exact .inl rfl | exact .inr True.intro
theorem ex_upd (e : Ex G H) (h : H p = none) : Ex (upd G p o) (upd H p o) := fun b u hb => by
  by_cases q : b = p
  · subst q
    rw [upd_same] at hb ⊢
    exact hb
  · rw [upd_ne q] at hb ⊢
    exact e b u hb
theorem Ext.new (h : G p = none) : Ext G m (upd G p o) m := ⟨Ex.new h, fun _ _ q => q⟩
/-- a new object that never changes -/
theorem Sim.newG (S : Sim K mg F G m st H) (hp : H p = none) : Sim K mg F (upd G p o) m st (upd H p o) := by
  have hg : G p = none := fresh_back S.ex hp
  refine ⟨ex_upd S.ex hp, fun b u e => ?_, fun b u e => ?_, S.fr, S.len, fun n c a h1 h2 => ?_, S.inj⟩
  · rw [upd_ne (ne_of_none (S.exF b u e) hp)]
    exact S.exF b u e
  · rw [upd_ne (ne_of_none (S.exF b u e) hp)]
    exact S.dj b u e
  have q := S.ok n c a h1 h2
  refine q.mono (Ext.new hg) (fun l => ?_) (fun l => ?_)
  · obtain ⟨g, u, hu⟩ := q.some l
    rw [upd_ne (ne_of_none hu hp)]
    exact g
  · obtain ⟨g, u, hu⟩ := q.some l
    rw [upd_ne (ne_of_none hu hp)]
theorem getElem?_snoc {α : Type} {l : List α} {x y : α} {i : Nat} (h : (l ++ [x])[i]? = some y) : (i < l.length ∧ l[i]? = some y) ∨ (i = l.length ∧ y = x) := by
  by_cases q : i < l.length
  · rw [List.getElem?_append_left q] at h
    exact .inl ⟨q, h⟩
  · rw [List.getElem?_append_right (by omega)] at h
    have q2 : i - l.length = 0 := by
      have := (List.getElem?_eq_some_iff.mp h).1
      simp at this
      omega
    rw [q2] at h
    simp at h
    exact .inr ⟨by omega, h.symm⟩
theorem mm_snoc {l : List Addr} (n : Nat) (a : Addr) (h : l[n]? = some a) : (l ++ [p])[n]? = some a := by
  rw [List.getElem?_append_left (List.getElem?_eq_some_iff.mp h).1]
  exact h
theorem Ext.cell : Ext G m G (m ++ [p]) := ⟨Ex.refl G, fun n a h => mm_snoc n a h⟩
/-- a new cell -/
theorem Sim.newC (S : Sim K mg F G m st H) (hp : H p = none) (hc : COk K mg G (m ++ [p]) (upd H p o) p c) : Sim K mg F G (m ++ [p]) (st ++ [c]) (upd H p o) := by
  have hg : G p = none := fresh_back S.ex hp
  refine ⟨fun b u e => ?_, fun b u e => ?_, S.dj, fun n c' a h1 l h2 => ?_, by simp [S.len], fun n c' a h1 h2 => ?_, fun i j a c1 c2 h1 h2 l1 l2 h3 h4 => ?_⟩
  · rw [upd_ne (ne_of_none (S.ex b u e) hp)]
    exact S.ex b u e
  · rw [upd_ne (ne_of_none (S.exF b u e) hp)]
    exact S.exF b u e
  · have hl := S.len
    rcases getElem?_snoc h1 with ⟨i1, h1⟩ | ⟨i1, h1⟩ <;> rcases getElem?_snoc h2 with ⟨i2, h2⟩ | ⟨i2, h2⟩ <;> first | omega | skip
    · exact S.fr n c' a h1 l h2
    · rw [h2]
      exact fresh_back S.exF hp
  · rcases getElem?_snoc h1 with ⟨i1, h1⟩ | ⟨i1, h1⟩
    · rcases getElem?_snoc h2 with ⟨i2, h2⟩ | ⟨i2, h2⟩
      · have q := S.ok n c' a h1 h2
        refine q.mono Ext.cell (fun l => (q.some l).1) (fun l => ?_)
        obtain ⟨g, u, hu⟩ := q.some l
        rw [upd_ne (ne_of_none hu hp)]
      · have := S.len
        omega
    · rcases getElem?_snoc h2 with ⟨i2, h2⟩ | ⟨i2, h2⟩
      · have := S.len
        omega
      · subst h1 h2
        exact hc
  · have old : ∀ {k : Nat} {c : C} {b : Addr}, st[k]? = some c → m[k]? = some b → c.live → b ≠ p := fun {k c b} e1 e2 l => by
      obtain ⟨g, u, hu⟩ := (S.ok _ _ _ e1 e2).some l
      exact ne_of_none hu hp
    have hl := S.len
    rcases getElem?_snoc h1 with ⟨i1, h1⟩ | ⟨i1, h1⟩ <;> rcases getElem?_snoc h2 with ⟨i2, h2⟩ | ⟨i2, h2⟩ <;>
      rcases getElem?_snoc h3 with ⟨i3, h3⟩ | ⟨i3, h3⟩ <;> rcases getElem?_snoc h4 with ⟨i4, h4⟩ | ⟨i4, h4⟩ <;> first | omega | skip
    · exact S.inj i j a c1 c2 h1 h2 l1 l2 h3 h4
    · exact absurd h4 (old h1 h3 l1)
    · exact absurd h3 (old h2 h4 l2)
/-- a cell's content is changed -/
theorem Sim.set {c0 : C} (S : Sim K mg F G m st H) (h0 : st[n]? = some c0) (l0 : c0.live) (ha : m[n]? = some a) (hc : COk K mg G m (upd H a o) a c') : Sim K mg F G m (st.set n c') (upd H a o) := by
  obtain ⟨g0, u0, hu0⟩ := (S.ok _ _ _ h0 ha).some l0
  refine ⟨fun b u e => ?_, fun b u e => ?_, S.dj, fun k c b h1 l h2 => ?_, by simp [S.len], fun k c b h1 h2 => ?_, fun i j b c1 c2 h1 h2 l1 l2 h3 h4 => ?_⟩
  · rw [upd_ne (ne_of_none e g0)]
    exact S.ex b u e
  · rw [upd_ne (ne_of_none e (S.fr _ _ _ h0 l0 ha))]
    exact S.exF b u e
  · by_cases q : n = k
    · subst q
      rw [ha] at h2
      cases h2
      exact S.fr _ _ _ h0 l0 ha
    · rw [List.getElem?_set_ne q] at h1
      exact S.fr _ _ _ h1 l h2
  · by_cases q : n = k
    · subst q
      rw [List.getElem?_set_self (List.getElem?_eq_some_iff.mp h0).1] at h1
      rw [ha] at h2
      cases h1
      cases h2
      exact hc
    · rw [List.getElem?_set_ne q] at h1
      have z := S.ok k c b h1 h2
      refine z.mono (Ext.refl G m) (fun l => (z.some l).1) (fun l => ?_)
      rw [upd_ne]
      intro e
      subst e
      exact q (S.inj n k b c0 c h0 h1 l0 l ha h2)
  · have back : ∀ {k : Nat} {c : C}, (st.set n c')[k]? = some c → c.live → ∃ c2, st[k]? = some c2 ∧ c2.live := fun {k c} e l => by
      by_cases q : n = k
      · subst q
        exact ⟨c0, h0, l0⟩
      · rw [List.getElem?_set_ne q] at e
        exact ⟨c, e, l⟩
    obtain ⟨d1, e1, m1⟩ := back h1 l1
    obtain ⟨d2, e2, m2⟩ := back h2 l2
    exact S.inj i j b d1 d2 e1 e2 m1 m2 h3 h4
/-- a cell's list becomes plain data -/
theorem Sim.freeze {xs : List W} {vs : List V} (S : Sim K mg F G m st H) (h0 : st[n]? = some (.lst xs)) (ha : m[n]? = some a) (hv : H a = some (.lst vs)) (r : RWs K G m xs vs) :
    Sim K mg F (upd G a (.lst vs)) m (st.set n .dead) H ∧ Ext G m (upd G a (.lst vs)) m ∧ RW K (upd G a (.lst vs)) m (.lst xs) (.ref a) := by
  have g0 : G a = none := (S.ok _ _ _ h0 ha).1
  refine ⟨⟨fun b u e => ?_, S.exF, fun b u e => ?_, fun k c b h1 l h2 => ?_, by simp [S.len], fun k c b h1 h2 => ?_, fun i j b c1 c2 h1 h2 l1 l2 h3 h4 => ?_⟩, Ext.new g0, .lst upd_same (r.mono (Ext.new g0))⟩
  · by_cases q : b = a
    · subst q
      rw [upd_same] at e
      cases e
      exact hv
    · rw [upd_ne q] at e
      exact S.ex b u e
  · rw [upd_ne (ne_of_none e (S.fr _ _ _ h0 True.intro ha))]
    exact S.dj b u e
  · by_cases q : n = k
    · subst q
      rw [List.getElem?_set_self (List.getElem?_eq_some_iff.mp h0).1] at h1
      cases h1
      exact l.elim
    · rw [List.getElem?_set_ne q] at h1
      exact S.fr _ _ _ h1 l h2
  · by_cases q : n = k
    · subst q
      rw [List.getElem?_set_self (List.getElem?_eq_some_iff.mp h0).1] at h1
      cases h1
      exact True.intro
    · rw [List.getElem?_set_ne q] at h1
      have z := S.ok k c b h1 h2
      refine z.mono (Ext.new g0) (fun l => ?_) (fun l => rfl)
      rw [upd_ne]
      · exact (z.some l).1
      · intro e
        subst e
        exact q (S.inj n k b _ c h0 h1 True.intro l ha h2)
  · have back : ∀ {k : Nat} {c : C}, (st.set n C.dead)[k]? = some c → c.live → st[k]? = some c := fun {k c} e l => by
      by_cases q : n = k
      · subst q
        rw [List.getElem?_set_self (List.getElem?_eq_some_iff.mp h0).1] at e
        cases e
        exact l.elim
      · rw [List.getElem?_set_ne q] at e
        exact e
    exact S.inj i j b c1 c2 (back h1 l1) (back h2 l2) l1 l2 h3 h4
/-- less is held apart -/
theorem Sim.less {F' : Hp} (S : Sim K mg F' G m st H) (e : Ex F F') : Sim K mg F G m st H := by
  refine ⟨S.ex, e.trans S.exF, fun b o h => S.dj b o (e b o h), fun n c a h1 l h2 => ?_, S.len, S.ok, S.inj⟩
  have h := S.fr n c a h1 l h2
  cases q : F a with
  | none => rfl
  | some o =>
    rw [e a o q] at h
    cases h
/-- more is held apart: a new object -/
theorem Sim.more (S : Sim K mg F G m st H) (hp : H p = none) : Sim K mg (upd F p o) G m st (upd H p o) := by
  refine ⟨fun b u e => ?_, ex_upd S.exF hp, fun b u e => ?_, fun n c a h1 l h2 => ?_, S.len, fun n c a h1 h2 => ?_, S.inj⟩
  · rw [upd_ne (ne_of_none (S.ex b u e) hp)]
    exact S.ex b u e
  · by_cases q : b = p
    · rw [q]
      exact fresh_back S.ex hp
    · rw [upd_ne q] at e
      exact S.dj b u e
  · obtain ⟨g, u, hu⟩ := (S.ok n c a h1 h2).some l
    rw [upd_ne (ne_of_none hu hp)]
    exact S.fr n c a h1 l h2
  · have q := S.ok n c a h1 h2
    refine q.mono (Ext.refl G m) (fun l => (q.some l).1) (fun l => ?_)
    obtain ⟨g, u, hu⟩ := q.some l
    rw [upd_ne (ne_of_none hu hp)]
/-- .. changes -/
theorem Sim.turn {o' : HO} (S : Sim K mg (upd F p o) G m st H) : Sim K mg (upd F p o') G m st (upd H p o') := by
  have gp : G p = none := S.dj p o upd_same
  refine ⟨fun b u e => ?_, fun b u e => ?_, fun b u e => ?_, fun n c a h1 l h2 => ?_, S.len, fun n c a h1 h2 => ?_, S.inj⟩
  · rw [upd_ne (ne_of_none e gp)]
    exact S.ex b u e
  · by_cases q : b = p
    · subst q
      rw [upd_same] at e ⊢
      exact e
    · rw [upd_ne q] at e ⊢
      exact S.exF b u (by rw [upd_ne q]; exact e)
  · by_cases q : b = p
    · rw [q]
      exact gp
    · rw [upd_ne q] at e
      exact S.dj b u (by rw [upd_ne q]; exact e)
  · have h := S.fr n c a h1 l h2
    by_cases q : a = p
    · subst q
      rw [upd_same] at h
      cases h
    · rw [upd_ne q] at h ⊢
      exact h
  · have q := S.ok n c a h1 h2
    refine q.mono (Ext.refl G m) (fun l => (q.some l).1) (fun l => ?_)
    rw [upd_ne]
    intro z
    subst z
    have h := S.fr n c a h1 l h2
    rw [upd_same] at h
    cases h
/-- .. becomes plain data -/
theorem Sim.give {vs : List V} {xs : List W} (S : Sim K mg (upd F p (.lst vs)) G m st H) (fp : F p = none) (r : RWs K G m xs vs) :
    Sim K mg F (upd G p (.lst vs)) m st H ∧ Ext G m (upd G p (.lst vs)) m ∧ RW K (upd G p (.lst vs)) m (.lst xs) (.ref p) := by
  have gp : G p = none := S.dj p _ upd_same
  have hp : H p = some (.lst vs) := S.exF p _ upd_same
  have nf : ∀ {b : Addr} {o : HO}, F b = some o → (upd F p (.lst vs)) b = some o := fun {b o} e => by
    rw [upd_ne (ne_of_none e fp)]
    exact e
  refine ⟨⟨fun b u e => ?_, fun b u e => S.exF b u (nf e), fun b u e => ?_, fun n c a h1 l h2 => ?_, S.len, fun n c a h1 h2 => ?_, S.inj⟩, Ext.new gp, .lst upd_same (r.mono (Ext.new gp))⟩
  · by_cases q : b = p
    · subst q
      rw [upd_same] at e
      cases e
      exact hp
    · rw [upd_ne q] at e
      exact S.ex b u e
  · rw [upd_ne (ne_of_none e fp)]
    exact S.dj b u (nf e)
  · have h := S.fr n c a h1 l h2
    by_cases q : a = p
    · rw [q]
      exact fp
    · rw [upd_ne q] at h
      exact h
  · have q := S.ok n c a h1 h2
    refine q.mono (Ext.new gp) (fun l => ?_) (fun l => rfl)
    rw [upd_ne]
    · exact (q.some l).1
    · intro z
      subst z
      have h := S.fr n c a h1 l h2
      rw [upd_same] at h
      cases h
theorem Sim.addr (S : Sim K mg F G m st H) (h : st[n]? = some c) : ∃ a, m[n]? = some a := by
  have h1 := (List.getElem?_eq_some_iff.mp h).1
  rw [← S.len] at h1
  exact ⟨_, List.getElem?_eq_getElem h1⟩
end
end Sh


set_option maxRecDepth 100000
set_option maxHeartbeats 2000000
namespace Sh
open PySem L2 Evl
variable [Wd]

abbrev MG := Str → Option Value
/-- an error's class and its own dict -/
def XOk (K : PySem.W.Frag) (mg : MG) (G : Hp) (m : List Addr) (H : Hp) (x : Exn) (cls : Value) (d : Option Addr) : Prop :=
  ∃ Cl, mg x.cls = some (.ref Cl) ∧ cls = .ref Cl ∧ ∃ da vs, d = some da ∧ G da = some (.xd vs) ∧ RKs K G m x.fs vs

abbrev Rel (α β : Type) := PySem.W.Frag → Hp → List Addr → α → β → Prop
def Post {α β : Type} (R : Rel α β) (K : PySem.W.Frag) (mg : MG) (E : XK) (F G : Hp) (m : List Addr) (o : Out α) (Q : β → Hp → Prop) : Prop := match o with
  | .stuck => False
  | .ok a st => ∀ G' m' b H', Ext G m G' m' → Sim K mg F G' m' st H' → R K G' m' a b → Q b H'
  | .exc x st => ∀ G' m' H' cls d, Ext G m G' m' → Sim K mg F G' m' st H' → XOk K mg G' m' H' x cls d → E cls d H'

section
variable {K : PySem.W.Frag} {mg : MG} {E : XK} {F G G' H : Hp} {m m' : List Addr} {st : Store} {α β γ δ : Type} {R : Rel α β} {R' : Rel γ δ}
theorem Post.mono {o : Out α} {Q : β → Hp → Prop} (e : Ext G m G' m') (h : Post R K mg E F G m o Q) : Post R K mg E F G' m' o Q := by
  cases o with
  | stuck => exact h
  | ok a st => exact fun G2 m2 b H2 e2 => h G2 m2 b H2 (e.trans e2)
  | exc x st => exact fun G2 m2 H2 c d e2 => h G2 m2 H2 c d (e.trans e2)
theorem Post.imp {o : Out α} {Q Q' : β → Hp → Prop} (h : Post R K mg E F G m o Q) (f : ∀ b H, Q b H → Q' b H) : Post R K mg E F G m o Q' := by
  cases o with
  | stuck => exact h
  | ok a st => exact fun G2 m2 b H2 e s r => f b H2 (h G2 m2 b H2 e s r)
  | exc x st => exact h
theorem Post.bind {o : Out α} {f : α → M γ} {Q : δ → Hp → Prop} (h : Post R' K mg E F G m (o.bind f) Q) :
    Post R K mg E F G m o fun b H => ∃ G' m' a st, Ext G m G' m' ∧ Sim K mg F G' m' st H ∧ R K G' m' a b ∧ Post R' K mg E F G' m' (f a st) Q := by
  cases o with
  | stuck => exact h
  | ok a st => exact fun G2 m2 b H2 e s r => ⟨G2, m2, a, st, e, s, r, Post.mono e h⟩
  | exc x st => exact h
theorem Post.ret {a : α} {b : β} {Q : β → Hp → Prop} (h : Post R K mg E F G m (.ok a st) Q) (S : Sim K mg F G m st H) (r : R K G m a b) : Q b H := h G m b H (Ext.refl G m) S r
theorem Post.nox {o : Out α} {Q : β → Hp → Prop} {E' : XK} (h : Post R K mg E F G m o.nox Q) : Post R K mg E' F G m o.nox Q := by
  cases o with
  | stuck => exact h
  | ok a st => exact h
  | exc x st => exact h.elim
end

def REnv (K : PySem.W.Frag) (G : Hp) (m : List Addr) (env : Env) (σ : L2.St) : Prop :=
  env.length = σ.length ∧ ∀ (i : Nat) (w : W), env[i]? = some (some w) → ∃ v, σ[i]? = some (some v) ∧ RW K G m w v
section
variable {K : PySem.W.Frag} {G G' : Hp} {m m' : List Addr} {env : Env} {σ : L2.St}
theorem REnv.mono (e : Ext G m G' m') (h : REnv K G m env σ) : REnv K G' m' env σ := ⟨h.1, fun i w q => let ⟨v, a, b⟩ := h.2 i w q; ⟨v, a, b.mono e⟩⟩
theorem REnv.set {w : W} {v : V} (h : REnv K G m env σ) (r : RW K G m w v) (i : Nat) : REnv K G m (env.set i (some w)) (σ.set i (some v)) := by
  refine ⟨by rw [List.length_set, List.length_set, h.1], fun j u q => ?_⟩
  by_cases e : i = j
  · subst e
    by_cases hi : i < env.length
    · rw [List.getElem?_set_self hi] at q
      cases q
      exact ⟨v, List.getElem?_set_self (by rw [← h.1]; exact hi), r⟩
    · rw [List.getElem?_eq_none (by rw [List.length_set]; omega)] at q
      cases q
  · rw [List.getElem?_set_ne e] at q ⊢
    exact h.2 j u q
theorem REnv.clr (h : REnv K G m env σ) (i : Nat) : REnv K G m (env.set i none) (σ.set i none) := by
  refine ⟨by rw [List.length_set, List.length_set, h.1], fun j u q => ?_⟩
  by_cases e : i = j
  · subst e
    by_cases hi : i < env.length
    · rw [List.getElem?_set_self hi] at q
      cases q
    · rw [List.getElem?_eq_none (by rw [List.length_set]; omega)] at q
      cases q
  · rw [List.getElem?_set_ne e] at q ⊢
    exact h.2 j u q
end
def wipeW (env : Env) : List Nat → Env
  | [] => env
  | v :: vs => (wipeW env vs).set v none
theorem REnv.wipe {K : PySem.W.Frag} {G : Hp} {m : List Addr} {env : Env} {σ : L2.St} (h : REnv K G m env σ) : ∀ vs : List Nat, REnv K G m (wipeW env vs) (L2.wipe σ vs)
  | [] => h
  | v :: vs => (REnv.wipe h vs).clr v

abbrev RA : Rel (List W) (List V) := RWs
def RB : Rel Bool Bool := fun _ _ _ a b => b = a
def RU : Rel Unit Unit := fun _ _ _ _ _ => True
/-- a new list, as yet nobody's -/
def RF : Rel (List W) V := fun _ _ _ _ _ => True

/-! ### the readings -/
def tE (K : PySem.W.Frag) (mg : MG) (E : XK) (d : Env → M W) : TE := fun σ H Q => ∃ F G m env st, Sim K mg F G m st H ∧ REnv K G m env σ ∧ Post RW K mg E F G m (d env st) Q
def tT (K : PySem.W.Frag) (mg : MG) (E : XK) (d : Env → M Bool) : TT := fun σ H Q => ∃ F G m env st, Sim K mg F G m st H ∧ REnv K G m env σ ∧ Post RB K mg E F G m (d env st) Q
def tA (K : PySem.W.Frag) (mg : MG) (E : XK) (d : Env → M (List W)) : TA := fun σ H Q => ∃ F G m env st, Sim K mg F G m st H ∧ REnv K G m env σ ∧ Post RA K mg E F G m (d env st) Q
/-- a new list that nothing tells of yet -/
def PostF (K : PySem.W.Frag) (mg : MG) (E : XK) (F G : Hp) (m : List Addr) (o : Out (List W)) (Q : VK) : Prop := match o with
  | .stuck => False
  | .ok xs st' => ∀ G' m' p vs H', Ext G m G' m' → Sim K mg F G' m' st' H' → H' p = none → RWs K G' m' xs vs → Q (.ref p) (upd H' p (.lst vs))
  | .exc x st' => ∀ G' m' H' cls d, Ext G m G' m' → Sim K mg F G' m' st' H' → XOk K mg G' m' H' x cls d → E cls d H'
def tF (K : PySem.W.Frag) (mg : MG) (E : XK) (d : Env → M (List W)) : TE := fun σ H Q => ∃ F G m env st, Sim K mg F G m st H ∧ REnv K G m env σ ∧ PostF K mg E F G m (d env st) Q
section
variable {K : PySem.W.Frag} {mg : MG} {E : XK} {F G G' H : Hp} {m m' : List Addr} {st : Store} {α β : Type} {R : Rel α β}
theorem PostF.mono {o : Out (List W)} {Q : VK} (e : Ext G m G' m') (h : PostF K mg E F G m o Q) : PostF K mg E F G' m' o Q := by
  cases o with
  | stuck => exact h
  | ok a st => exact fun G2 m2 p b H2 e2 => h G2 m2 p b H2 (e.trans e2)
  | exc x st => exact fun G2 m2 H2 c d e2 => h G2 m2 H2 c d (e.trans e2)
theorem PostF.bind {o : Out α} {f : α → M (List W)} {Q : VK} (h : PostF K mg E F G m (o.bind f) Q) :
    Post R K mg E F G m o fun b H => ∃ G' m' a st, Ext G m G' m' ∧ Sim K mg F G' m' st H ∧ R K G' m' a b ∧ PostF K mg E F G' m' (f a st) Q := by
  cases o with
  | stuck => exact h
  | ok a st => exact fun G2 m2 b H2 e s r => ⟨G2, m2, a, st, e, s, r, PostF.mono e h⟩
  | exc x st => exact h
theorem PostF.ret {xs : List W} {vs : List V} {p : Addr} {Q : VK} (h : PostF K mg E F G m (.ok xs st) Q) (S : Sim K mg F G m st H) (hp : H p = none) (r : RWs K G m xs vs) : Q (.ref p) (upd H p (.lst vs)) :=
  h G m p vs H (Ext.refl G m) S hp r
end

inductive SOut where
  | stuck | nx (env : Env) (st : Store) | rt (w : W) (st : Store) | bk (env : Env) (st : Store) | ct (env : Env) (st : Store) | exc (x : Exn) (st : Store)
abbrev S := Env → Store → SOut
def Out.bindS {α : Type} (o : Out α) (f : α → Store → SOut) : SOut := match o with
  | .stuck => .stuck
  | .ok a st => f a st
  | .exc x st => .exc x st
@[simp] theorem Out.bindS_ok {α : Type} (a : α) (st : Store) (f : α → Store → SOut) : (Out.ok a st).bindS f = f a st := rfl
@[simp] theorem Out.bindS_stuck {α : Type} (f : α → Store → SOut) : (Out.stuck : Out α).bindS f = .stuck := rfl
@[simp] theorem Out.bindS_exc {α : Type} (x : Exn) (st : Store) (f : α → Store → SOut) : (Out.exc x st : Out α).bindS f = .exc x st := rfl

def PostS (K : PySem.W.Frag) (mg : MG) (E : XK) (F G : Hp) (m : List Addr) (o : SOut) (D : Ends) : Prop := match o with
  | .stuck => False
  | .nx env st => ∀ G' m' σ' H', Ext G m G' m' → Sim K mg F G' m' st H' → REnv K G' m' env σ' → D.nx σ' H'
  | .bk env st => ∀ G' m' σ' H', Ext G m G' m' → Sim K mg F G' m' st H' → REnv K G' m' env σ' → D.bk σ' H'
  | .ct env st => ∀ G' m' σ' H', Ext G m G' m' → Sim K mg F G' m' st H' → REnv K G' m' env σ' → D.ct σ' H'
  | .rt w st => ∀ G' m' v H', Ext G m G' m' → Sim K mg F G' m' st H' → RW K G' m' w v → D.rt v H'
  | .exc x st => ∀ G' m' H' cls d, Ext G m G' m' → Sim K mg F G' m' st H' → XOk K mg G' m' H' x cls d → E cls d H'
def tS (K : PySem.W.Frag) (mg : MG) (E : XK) (s : S) : TS := fun D σ H => ∃ F G m env st, Sim K mg F G m st H ∧ REnv K G m env σ ∧ PostS K mg E F G m (s env st) D

section
variable {K : PySem.W.Frag} {mg : MG} {E : XK} {F G G' H : Hp} {m m' : List Addr} {st : Store} {α β : Type} {R : Rel α β}
theorem PostS.mono {o : SOut} {D : Ends} (e : Ext G m G' m') (h : PostS K mg E F G m o D) : PostS K mg E F G' m' o D := by
  cases o with
  | stuck => exact h
  | nx env st => exact fun G2 m2 b H2 e2 => h G2 m2 b H2 (e.trans e2)
  | bk env st => exact fun G2 m2 b H2 e2 => h G2 m2 b H2 (e.trans e2)
  | ct env st => exact fun G2 m2 b H2 e2 => h G2 m2 b H2 (e.trans e2)
  | rt w st => exact fun G2 m2 b H2 e2 => h G2 m2 b H2 (e.trans e2)
  | exc x st => exact fun G2 m2 H2 c d e2 => h G2 m2 H2 c d (e.trans e2)
theorem PostS.bindS {o : Out α} {f : α → Store → SOut} {D : Ends} (h : PostS K mg E F G m (o.bindS f) D) :
    Post R K mg E F G m o fun b H => ∃ G' m' a st, Ext G m G' m' ∧ Sim K mg F G' m' st H ∧ R K G' m' a b ∧ PostS K mg E F G' m' (f a st) D := by
  cases o with
  | stuck => exact h
  | ok a st => exact fun G2 m2 b H2 e s r => ⟨G2, m2, a, st, e, s, r, PostS.mono e h⟩
  | exc x st => exact h
end

/-! ### the judgements -/
section
variable {X : Cx}
theorem weakE {e : Expr} {t t' : TE} (h : PE X e t) (w : ∀ σ H Q, t' σ H Q → t σ H Q) : PE X e t' := ⟨fun pins s σ H Q I q => h.run pins s σ H Q I (w σ H Q q)⟩
theorem weakT {e : Expr} {t t' : TT} (h : PT X e t) (w : ∀ σ H Q, t' σ H Q → t σ H Q) : PT X e t' := ⟨fun pins s σ H Q I q => h.run pins s σ H Q I (w σ H Q q)⟩
theorem weakA {e : List Expr} {t t' : TA} (h : PA X e t) (w : ∀ σ H Q, t' σ H Q → t σ H Q) : PA X e t' := ⟨fun po pins s σ H Q I q => h.run po pins s σ H Q I (w σ H Q q)⟩
theorem weakS {e : Stmt} {t t' : TS} (h : PS X e t) (w : ∀ D σ H, t' D σ H → t D σ H) : PS X e t' := ⟨fun pins s σ H D I q => h.run pins s σ H D I (w D σ H q)⟩
theorem weakSs {e : List Stmt} {t t' : TS} (h : PSs X e t) (w : ∀ D σ H, t' D σ H → t D σ H) : PSs X e t' := ⟨fun pins s σ H D I q => h.run pins s σ H D I (w D σ H q)⟩
end
abbrev JE (X : Cx) (E : XK) (e : Expr) (d : Env → M W) : Prop := PE X e (tE X.K X.mg E d)
abbrev JT (X : Cx) (E : XK) (e : Expr) (d : Env → M Bool) : Prop := PT X e (tT X.K X.mg E d)
abbrev JA (X : Cx) (E : XK) (e : List Expr) (d : Env → M (List W)) : Prop := PA X e (tA X.K X.mg E d)
abbrev JF (X : Cx) (E : XK) (e : Expr) (d : Env → M (List W)) : Prop := PE X e (tF X.K X.mg E d)
abbrev JS (X : Cx) (E : XK) (e : Stmt) (d : S) : Prop := PS X e (tS X.K X.mg E d)
abbrev JSs (X : Cx) (E : XK) (e : List Stmt) (d : S) : Prop := PSs X e (tS X.K X.mg E d)

/-! ### names, constants, operators -/
def dVar (i : Nat) : Env → M W := fun env st => match env[i]? with
  | some (some w) => .ok w st
  | _ => .stuck
def dC (w : W) : Env → M W := fun _ st => .ok w st
def dOp (f : W → W → M W) (a b : Env → M W) : Env → M W := fun env st => (a env st).bind fun x st => (b env st).bind fun y st => f x y st
def dUn (f : W → M W) (a : Env → M W) : Env → M W := fun env st => (a env st).bind f
def dNil : Env → M (List W) := fun _ st => .ok [] st
def dCons (a : Env → M W) (r : Env → M (List W)) : Env → M (List W) := fun env st => (a env st).bind fun x st => (r env st).bind fun xs st => .ok (x :: xs) st
/-- an operation of values keeps its word -/
def OpOk (K : PySem.W.Frag) (mg : MG) (E : XK) (r : R2) (f : W → W → M W) : Prop :=
  ∀ F G m st H x y v u Q, Sim K mg F G m st H → RW K G m x v → RW K G m y u → Post RW K mg E F G m (f x y st) Q → r v u H Q
def UnOk (K : PySem.W.Frag) (mg : MG) (E : XK) (r : V → Hp → VK → Prop) (f : W → M W) : Prop :=
  ∀ F G m st H x v Q, Sim K mg F G m st H → RW K G m x v → Post RW K mg E F G m (f x st) Q → r v H Q
def CallOk (K : PySem.W.Frag) (mg : MG) (E : XK) (r : List V → Hp → VK → Prop) (f : List W → M W) : Prop :=
  ∀ F G m st H xs vs Q, Sim K mg F G m st H → RWs K G m xs vs → Post RW K mg E F G m (f xs st) Q → r vs H Q
def TruOk (K : PySem.W.Frag) (mg : MG) (E : XK) (r : V → Hp → (Bool → Hp → Prop) → Prop) (f : W → M Bool) : Prop :=
  ∀ F G m st H x v Q, Sim K mg F G m st H → RW K G m x v → Post RB K mg E F G m (f x st) Q → r v H Q

section
variable {X : Cx} {E : XK} {a b e : Expr} {es : List Expr} {da db d : Env → M W} {ds : Env → M (List W)} {pos : Pos} {r : R2} {f : W → W → M W}
theorem je_var (i : Nat) {x : Str} {pos : Pos} (hN : X.N[i]? = some x := by rfl) (hv : Vis X.env.scope x := by first | exact Or.inl rfl | exact Or.inr (Or.inl rfl) | exact Or.inr (Or.inr rfl))
    (hd : (x == ("__debug__" : Str)) = false := by decide) (hcd : (x == ("__classdict__" : Str)) = false := by decide) : JE X E (.Name x pos) (dVar i) := by
  refine weakE (pe_var hN hv hd hcd) ?_
  rintro σ H Q ⟨F, G, m, env, st, S, R, P⟩
  unfold dVar at P
  split at P
  · rename_i w q
    obtain ⟨v, h1, h2⟩ := R.2 i w q
    exact ⟨v, h1, P.ret S h2⟩
  · exact P.elim
theorem je_const {v : V} {w : W} (h : PE X e (tC v)) (r : ∀ G m, RW X.K G m w v) : JE X E e (dC w) := by
  refine weakE h ?_
  rintro σ H Q ⟨F, G, m, env, st, S, R, P⟩
  exact P.ret S (r G m)
theorem je_int {i j pos} : JE X E (.Constant (.int i) j pos) (dC (.int i)) := je_const pe_int fun _ _ => .int i
theorem je_bl {i j pos} : JE X E (.Constant (.bool i) j pos) (dC (.bl i)) := je_const pe_bl fun _ _ => .bl i
theorem je_str {i j pos} : JE X E (.Constant (.str i) j pos) (dC (.str i)) := je_const pe_str fun _ _ => .str i
theorem je_non {j pos} : JE X E (.Constant .none j pos) (dC .non) := je_const pe_non fun _ _ => .non

theorem two {Q : V → V → Hp → Prop} {σ : L2.St} {H : Hp} {da db : Env → M W} {γ δ : Type} {R' : Rel γ δ} {k : W → W → M γ} {QQ : δ → Hp → Prop} {G : Hp} {m : List Addr} {env : Env} {st : Store}
    (S : Sim X.K X.mg F G m st H) (R : REnv X.K G m env σ) (P : Post R' X.K X.mg E F G m ((da env st).bind fun x st => (db env st).bind fun y st => k x y st) QQ)
    (h : ∀ F G m st H x y v u, Sim X.K X.mg F G m st H → RW X.K G m x v → RW X.K G m y u → Post R' X.K X.mg E F G m (k x y st) QQ → Q v u H) :
    tE X.K X.mg E da σ H fun v H1 => tE X.K X.mg E db σ H1 fun u H2 => Q v u H2 :=
  ⟨F, G, m, env, st, S, R, P.bind.imp fun v1 H1 ⟨G1, m1, x, st1, e1, S1, r1, P1⟩ => ⟨F, G1, m1, env, st1, S1, R.mono e1, P1.bind.imp fun v2 H2 ⟨G2, m2, y, st2, e2, S2, r2, P2⟩ => h F G2 m2 st2 H2 x y v1 v2 S2 (r1.mono e2) r2 P2⟩⟩
theorem je_op {op : Operator} (ho : OpR X (binaryOp op) r) (hf : OpOk X.K X.mg E r f) (ha : JE X E a da) (hb : JE X E b db) : JE X E (.BinOp a op b pos) (dOp f da db) := by
  refine weakE (pe_op ho ha hb) ?_
  rintro σ H Q ⟨F, G, m, env, st, S, R, P⟩
  exact two S R P fun F G m st H x y v u S1 r1 r2 P1 => hf F G m st H x y v u Q S1 r1 r2 P1
theorem je_cmp {op : CmpOp} (ho : OpR X (compareOp op) r) (hf : OpOk X.K X.mg E r f) (ha : JE X E a da) (hb : JE X E b db) (hm : behindInMarks op b = false) : JE X E (.Compare a [op] [b] pos) (dOp f da db) := by
  refine weakE (pe_cmpR ho ha hb hm) ?_
  rintro σ H Q ⟨F, G, m, env, st, S, R, P⟩
  exact two S R P fun F G m st H x y v u S1 r1 r2 P1 => hf F G m st H x y v u Q S1 r1 r2 P1
theorem je_un {op : UnaryOp} {r : V → Hp → VK → Prop} {f : W → M W} (ho : UnR X (unaryOp op) r) (hf : UnOk X.K X.mg E r f) (ha : JE X E a da) : JE X E (.UnaryOp op a pos) (dUn f da) := by
  refine weakE (pe_un ho ha) ?_
  rintro σ H Q ⟨F, G, m, env, st, S, R, P⟩
  exact ⟨F, G, m, env, st, S, R, P.bind.imp fun v1 H1 ⟨G1, m1, x, st1, e1, S1, r1, P1⟩ => hf F G1 m1 st1 H1 x v1 Q S1 r1 P1⟩
theorem je_ix {r : R2} {f : W → W → M W} (ho : IxR X r) (hf : OpOk X.K X.mg E r f) (ha : JE X E a da) (hb : JE X E b db) (hs : PlainIx b := by exact fun _ _ => rfl) : JE X E (.Subscript a b pos) (dOp f da db) := by
  refine weakE (pe_ix ho ha hb hs) ?_
  rintro σ H Q ⟨F, G, m, env, st, S, R, P⟩
  exact two S R P fun F G m st H x y v u S1 r1 r2 P1 => hf F G m st H x y v u Q S1 r1 r2 P1
theorem ja_nil : JA X E [] dNil := by
  refine weakA pa_nil ?_
  rintro σ H Q ⟨F, G, m, env, st, S, R, P⟩
  exact P.ret S .nil
theorem ja_cons (ha : JE X E e d) (hr : JA X E es ds) (hs : starEach (e :: es) X.env = (false, eval e X.env) :: starEach es X.env := by rfl) : JA X E (e :: es) (dCons d ds) := by
  refine weakA (pa_cons ha hr hs) ?_
  rintro σ H Q ⟨F, G, m, env, st, S, R, P⟩
  refine ⟨F, G, m, env, st, S, R, P.bind.imp fun v1 H1 ⟨G1, m1, x, st1, e1, S1, r1, P1⟩ => ?_⟩
  refine ⟨F, G1, m1, env, st1, S1, R.mono e1, (P1.bind (R := RA)).imp fun v2 H2 ⟨G2, m2, y, st2, e2, S2, r2, P2⟩ => ?_⟩
  exact P2.ret S2 (RWs.cons (r1.mono e2) r2)
/-- a display that is a tuple -/
def dTup (ds : Env → M (List W)) : Env → M W := fun env st => (ds env st).bind fun xs st => if xs.length ≤ sizeLine then .ok (.tup xs) st else .stuck
theorem je_tup {x1} (h : JA X E es ds) : JE X E (.Tuple es x1 pos) (dTup ds) := by
  refine weakE (pe_tup h) ?_
  rintro σ H Q ⟨F, G, m, env, st, S, R, P⟩
  refine ⟨F, G, m, env, st, S, R, (P.bind (R := RA)).imp fun vs H1 ⟨G1, m1, xs, st1, e1, S1, r1, P1⟩ => ?_⟩
  split at P1
  · rename_i z
    have hl := RWs.length r1
    refine ⟨by rw [← hl]; exact z, fun p hp => ?_⟩
    have hg := fresh_back S1.ex hp
    exact P1.mono (Ext.new hg) |>.ret (S1.newG hp) (.tup upd_same (RWs.mono (Ext.new hg) r1))
  · exact P1.elim
/-- a display that is a list, nobody's yet -/
def dLst (ds : Env → M (List W)) : Env → M (List W) := fun env st => (ds env st).bind fun xs st => if xs.length ≤ sizeLine then .ok xs st else .stuck
theorem jf_lst (h : JA X E es ds) : JF X E (.List es pos) (dLst ds) := by
  refine weakE (pe_lst h) ?_
  rintro σ H Q ⟨F, G, m, env, st, S, R, P⟩
  refine ⟨F, G, m, env, st, S, R, (P.bind (R := RA)).imp fun vs H1 ⟨G1, m1, xs, st1, e1, S1, r1, P1⟩ => ?_⟩
  split at P1
  · rename_i z
    have hl := RWs.length r1
    exact ⟨by rw [← hl]; exact z, fun p hp => P1.ret S1 hp r1⟩
  · exact P1.elim
/-- .. is plain data -/
def dPure (d : Env → M (List W)) : Env → M W := fun env st => (d env st).bind fun xs st => .ok (.lst xs) st
theorem je_pure {d : Env → M (List W)} (h : JF X E e d) : JE X E e (dPure d) := by
  refine weakE h ?_
  rintro σ H Q ⟨F, G, m, env, st, S, R, P⟩
  refine ⟨F, G, m, env, st, S, R, ?_⟩
  unfold dPure at P
  cases q : d env st with
  | stuck => rw [q] at P; exact P.elim
  | exc x st1 => rw [q] at P; exact P
  | ok xs st1 =>
    rw [q] at P
    intro G1 m1 p vs H1 e1 S1 hp r1
    have P : Post RW X.K X.mg E F G m (.ok (.lst xs) st1) Q := P
    have hg := fresh_back S1.ex hp
    exact (P.mono e1).mono (Ext.new hg) |>.ret (S1.newG hp) (.lst upd_same (r1.mono (Ext.new hg)))
/-- .. is a cell -/
def dCell (d : Env → M (List W)) : Env → M W := fun env st => (d env st).bind fun xs st => .ok (.cell st.length) (st ++ [.lst xs])
theorem je_cell {d : Env → M (List W)} (h : JF X E e d) : JE X E e (dCell d) := by
  refine weakE h ?_
  rintro σ H Q ⟨F, G, m, env, st, S, R, P⟩
  refine ⟨F, G, m, env, st, S, R, ?_⟩
  unfold dCell at P
  cases q : d env st with
  | stuck => rw [q] at P; exact P.elim
  | exc x st1 => rw [q] at P; exact P
  | ok xs st1 =>
    rw [q] at P
    intro G1 m1 p vs H1 e1 S1 hp r1
    have P : Post RW X.K X.mg E F G m (.ok (.cell st1.length) (st1 ++ [.lst xs])) Q := P
    have hg := fresh_back S1.ex hp
    refine (P.mono e1).mono (Ext.cell (p := p)) |>.ret (S1.newC hp ⟨hg, vs, upd_same, r1.mono Ext.cell⟩) (.cell ?_)
    rw [← S1.len]
    simp
end
end Sh


set_option maxRecDepth 100000
set_option maxHeartbeats 2000000
namespace Sh
open PySem L2 Evl
variable [Wd]

/-! ### what is read of a value -/
def lcell (st : Store) (n : Nat) : Option (List W) := match st[n]? with
  | some (.lst xs) => some xs
  | _ => none
theorem lcell_some {st : Store} {n : Nat} {xs : List W} (h : lcell st n = some xs) : st[n]? = some (.lst xs) := by
  unfold lcell at h
  split at h
  · rename_i q
    cases h
    exact q
  · cases h
def lviewT (w : W) (st : Store) : Option (List W) := match w with
  | .lst xs => some xs
  | .cell n => lcell st n
  | _ => none
def lview (w : W) (st : Store) : Option (List W) := match w with
  | .fz xs => some xs
  | w => lviewT w st
def tview (w : W) : Option (List W) := match w with
  | .tup xs => some xs
  | .ftp xs => some xs
  | _ => none
def sview (w : W) (st : Store) : Option (List W) := match w with
  | .tup xs => some xs
  | .ftp xs => some xs
  | w => lview w st
section
variable {K : PySem.W.Frag} {mg : MG} {G H : Hp} {m : List Addr} {st : Store} {w : W} {v : V} {xs : List W}
theorem lviewT_at (S : Sim K mg F G m st H) (r : RW K G m w v) (h : lviewT w st = some xs) : ∃ a vs, v = .ref a ∧ H a = some (.lst vs) ∧ RWs K G m xs vs := by
  cases r with
  | lst h1 h2 =>
    cases h
    exact ⟨_, _, rfl, S.ex _ _ h1, h2⟩
  | @cell n a h1 =>
    obtain ⟨_, vs, h2, h3⟩ := S.ok n _ a (lcell_some h) h1
    exact ⟨a, vs, rfl, h2, h3⟩
  | _ => cases h
theorem lview_at (S : Sim K mg F G m st H) (r : RW K G m w v) (h : lview w st = some xs) : ∃ a vs, v = .ref a ∧ SqL K H a vs ∧ RWs K G m xs vs := by
  cases w with
  | fz ys =>
    cases r with
    | fz h1 h2 =>
      cases h
      exact ⟨_, _, rfl, ex_l S.ex h1, h2⟩
  | lst ys =>
    obtain ⟨a, vs, e, h1, h2⟩ := lviewT_at S r (show lviewT (.lst ys) st = some xs from h)
    exact ⟨a, vs, e, .inl (.inl h1), h2⟩
  | cell n =>
    obtain ⟨a, vs, e, h1, h2⟩ := lviewT_at S r (show lviewT (.cell n) st = some xs from h)
    exact ⟨a, vs, e, .inl (.inl h1), h2⟩
  | _ => cases h
theorem tview_at (S : Sim K mg F G m st H) (r : RW K G m w v) (h : tview w = some xs) : ∃ a vs, v = .ref a ∧ SqT K H a vs ∧ RWs K G m xs vs := by
  cases r with
  | tup h1 h2 =>
    cases h
    exact ⟨_, _, rfl, .inl (.inl (S.ex _ _ h1)), h2⟩
  | ftp h1 h2 =>
    cases h
    exact ⟨_, _, rfl, ex_t S.ex h1, h2⟩
  | _ => cases h
theorem sview_at (S : Sim K mg F G m st H) (r : RW K G m w v) (h : sview w st = some xs) : ∃ a vs, v = .ref a ∧ (SqL K H a vs ∨ SqT K H a vs) ∧ RWs K G m xs vs := by
  cases w with
  | tup ys =>
    obtain ⟨a, vs, e, h1, h2⟩ := tview_at S r (show tview (.tup ys) = some xs from h)
    exact ⟨a, vs, e, .inr h1, h2⟩
  | ftp ys =>
    obtain ⟨a, vs, e, h1, h2⟩ := tview_at S r (show tview (.ftp ys) = some xs from h)
    exact ⟨a, vs, e, .inr h1, h2⟩
  | _ =>
    obtain ⟨a, vs, e, h1, h2⟩ := lview_at S r h
    exact ⟨a, vs, e, .inl h1, h2⟩
end

/-! ### data at any depth -/
mutual
def dat : W → Option PyData
  | .non => some .none
  | .bl b => some (.bool b)
  | .int i => some (.int i)
  | .str x => some (.str x)
  | .tup xs => (dats xs).map .tuple
  | .ftp xs => (dats xs).map .tuple
  | .lst xs => (dats xs).map .list
  | .fz xs => (dats xs).map .list
  | .cell _ => none
  | .exn _ _ _ _ => none
  | .xob _ _ _ => none
def dats : List W → Option (List PyData)
  | [] => some []
  | x :: xs => (dat x).bind fun d => (dats xs).map fun ds => d :: ds
end
/-- a cell's list too, at the top -/
def datC (w : W) (st : Store) : Option PyData := match w with
  | .cell n => (lviewT (.cell n) st).bind fun xs => (dats xs).map .list
  | w => dat w
section
variable {K : PySem.W.Frag} {mg : MG} {G H : Hp} {m : List Addr} {st : Store}
mutual
theorem dat_at (S : Sim K mg F G m st H) : ∀ {w : W} {v : V} {d : PyData}, RW K G m w v → dat w = some d → Dp K H v d
  | _, _, d, .non, h => by cases h; exact .non
  | _, _, d, .bl b, h => by cases h; exact .bl b
  | _, _, d, .int i, h => by cases h; exact .int i
  | _, _, d, .str x, h => by cases h; exact .str x
  | .tup xs, _, d, .tup h1 h2, h => by
    cases q : dats xs with
    | none => rw [dat, q] at h; cases h
    | some ds =>
      rw [dat, q] at h
      cases h
      exact .tup (.inl (.inl (S.ex _ _ h1))) (dats_at S h2 q)
  | .ftp xs, _, d, .ftp h1 h2, h => by
    cases q : dats xs with
    | none => rw [dat, q] at h; cases h
    | some ds =>
      rw [dat, q] at h
      cases h
      exact .tup (ex_t S.ex h1) (dats_at S h2 q)
  | .lst xs, _, d, .lst h1 h2, h => by
    cases q : dats xs with
    | none => rw [dat, q] at h; cases h
    | some ds =>
      rw [dat, q] at h
      cases h
      exact .lst (.inl (.inl (S.ex _ _ h1))) (dats_at S h2 q)
  | .fz xs, _, d, .fz h1 h2, h => by
    cases q : dats xs with
    | none => rw [dat, q] at h; cases h
    | some ds =>
      rw [dat, q] at h
      cases h
      exact .lst (ex_l S.ex h1) (dats_at S h2 q)
  | .cell n, _, d, .cell h1, h => by cases h
  | .exn _ _ _ _, _, d, .exn _ _, h => by cases h
  | .xob _ _ _, _, d, .xob _ _ _ _, h => by cases h
theorem dats_at (S : Sim K mg F G m st H) : ∀ {ws : List W} {vs : List V} {ds : List PyData}, RWs K G m ws vs → dats ws = some ds → DpAll K H vs ds
  | _, _, _, .nil, h => by cases h; exact .nil
  | x :: xs, _, _, .cons h1 h2, h => by
    cases q : dat x with
    | none => rw [dats, q] at h; cases h
    | some d =>
      cases q2 : dats xs with
      | none => rw [dats, q, q2] at h; cases h
      | some ds =>
        rw [dats, q, q2] at h
        cases h
        exact .cons (dat_at S h1 q) (dats_at S h2 q2)
end
theorem datC_at (S : Sim K mg F G m st H) {w : W} {v : V} {d : PyData} (r : RW K G m w v) (h : datC w st = some d) : Dp K H v d := by
  cases w with
  | cell n =>
    cases q : lviewT (.cell n) st with
    | none => rw [datC, q] at h; cases h
    | some xs =>
      cases q2 : dats xs with
      | none => simp only [datC, q, q2, Option.bind, Option.map] at h; cases h
      | some ds =>
        simp only [datC, q, q2, Option.bind, Option.map] at h
        cases h
        obtain ⟨a, vs, rfl, h1, h2⟩ := lviewT_at S r q
        exact .lst (.inl (.inl h1)) (dats_at S h2 q2)
  | _ => exact dat_at S r h
end

/-! ### operators by value -/
def oI (g : Int → Int → W) : W → W → M W := fun x y st => match x, y with
  | .int i, .int j => .ok (g i j) st
  | _, _ => .stuck
def oIC (c : Int → Int → Prop) [∀ i j, Decidable (c i j)] (g : Int → Int → W) : W → W → M W := fun x y st => match x, y with
  | .int i, .int j => if c i j then .ok (g i j) st else .stuck
  | _, _ => .stuck
instance (i j : Int) : Decidable (CMul i j) := by unfold CMul; exact inferInstance
instance (i j : Int) : Decidable (CDiv i j) := by unfold CDiv; exact inferInstance
def oCat : W → W → M (List W) := fun x y st => match lviewT x st, lviewT y st with
  | some xs, some ys => if xs.length + ys.length ≤ sizeLine then .ok (xs ++ ys) st else .stuck
  | _, _ => .stuck
def oRep : W → W → M (List W) := fun x y st => match lviewT x st, y with
  | some xs, .int k => if -(2 ^ 63) ≤ k ∧ k < 2 ^ 63 ∧ xs.length * k.toNat ≤ sizeLine then .ok (List.replicate k.toNat xs).flatten st else .stuck
  | _, _ => .stuck
def scalW : W → W → Option Bool
  | .non, .non => some true
  | .int i, .int j => some (decide (i = j))
  | .bl i, .bl j => some (decide (i = j))
  | .str i, .str j => some (decide (i = j))
  | .non, .int _ => some false
  | .int _, .non => some false
  | .non, .bl _ => some false
  | .bl _, .non => some false
  | .non, .str _ => some false
  | .str _, .non => some false
  | .int _, .str _ => some false
  | .str _, .int _ => some false
  | .bl _, .str _ => some false
  | .str _, .bl _ => some false
  | _, _ => none
def eqDeep (x y : W) (st : Store) : Option Bool := match datC x st, datC y st with
  | some d, some e => if SeqAt.shaped d = true ∧ SeqAt.shaped e = true then some (PyData.eqv d e) else none
  | _, _ => none
def eqAny (x y : W) (st : Store) : Option Bool := match scalW x y with
  | some b => some b
  | none => eqDeep x y st
def oEq : W → W → M W := fun x y st => match eqAny x y st with
  | some b => .ok (.bl b) st
  | none => .stuck
def oNe : W → W → M W := fun x y st => match eqAny x y st with
  | some b => .ok (.bl (!b)) st
  | none => .stuck
def oStr : W → W → M W := fun x y st => match x, y with
  | .str a, .str b => if a.length + b.length ≤ sizeLine then .ok (.str (a ++ b)) st else .stuck
  | _, _ => .stuck
def oIx : W → W → M W := fun x y st => match sview x st, y with
  | some xs, .int i => match atI xs i with
    | some w => .ok w st
    | none => .stuck
  | _, _ => .stuck
def oIsN : W → W → M W := fun x y st => match y with
  | .non => match x with
    | .non => .ok (.bl true) st
    | _ => .ok (.bl false) st
  | _ => .stuck
def oNotN : W → W → M W := fun x y st => match y with
  | .non => match x with
    | .non => .ok (.bl false) st
    | _ => .ok (.bl true) st
  | _ => .stuck
/-- a new list by an operation -/
def OpOkF (K : PySem.W.Frag) (mg : MG) (E : XK) (r : R2) (f : W → W → M (List W)) : Prop :=
  ∀ F G m st H x y v u Q, Sim K mg F G m st H → RW K G m x v → RW K G m y u → PostF K mg E F G m (f x y st) Q → r v u H Q
def CallOkF (K : PySem.W.Frag) (mg : MG) (E : XK) (r : List V → Hp → VK → Prop) (f : List W → M (List W)) : Prop :=
  ∀ F G m st H xs vs Q, Sim K mg F G m st H → RWs K G m xs vs → PostF K mg E F G m (f xs st) Q → r vs H Q
section
variable {K : PySem.W.Frag} {mg : MG} {E : XK}
theorem ok_I {g' : Int → Int → V} {g : Int → Int → W} (hg : ∀ i j G m, RW K G m (g i j) (g' i j)) : OpOk K mg E (rI0 g') (oI g) := by
  intro F G m st H x y v u Q S r1 r2 P
  unfold oI at P
  split at P
  · cases r1
    cases r2
    exact ⟨_, _, rfl, rfl, P.ret S (hg _ _ G m)⟩
  · exact P.elim
theorem ok_IC {c : Int → Int → Prop} [∀ i j, Decidable (c i j)] {g' : Int → Int → V} {g : Int → Int → W} (hg : ∀ i j G m, RW K G m (g i j) (g' i j)) : OpOk K mg E (rI c g') (oIC c g) := by
  intro F G m st H x y v u Q S r1 r2 P
  unfold oIC at P
  split at P
  · cases r1
    cases r2
    split at P
    · exact ⟨_, _, rfl, rfl, by assumption, P.ret S (hg _ _ G m)⟩
    · exact P.elim
  · exact P.elim
theorem ok_str : OpOk K mg E (fun x y H Q => ∃ i j, x = .str i ∧ y = .str j ∧ i.length + j.length ≤ sizeLine ∧ Q (.str (i ++ j)) H) oStr := by
  intro F G m st H x y v u Q S r1 r2 P
  unfold oStr at P
  split at P
  · cases r1
    cases r2
    split at P
    · exact ⟨_, _, rfl, rfl, by assumption, P.ret S (.str _)⟩
    · exact P.elim
  · exact P.elim
theorem ok_cat : OpOkF K mg E rCat oCat := by
  intro F G m st H x y v u Q S r1 r2 P
  unfold oCat at P
  split at P
  · rename_i xs ys q1 q2
    split at P
    · rename_i z
      obtain ⟨a, vs, rfl, h1, h2⟩ := lviewT_at S r1 q1
      obtain ⟨b, us, rfl, h3, h4⟩ := lviewT_at S r2 q2
      exact ⟨a, b, vs, us, rfl, rfl, h1, h3, by rw [← h2.length, ← h4.length]; exact z, fun p hp => P.ret S hp (h2.append h4)⟩
    · exact P.elim
  · exact P.elim
theorem ok_rep : OpOkF K mg E rRep oRep := by
  intro F G m st H x y v u Q S r1 r2 P
  unfold oRep at P
  split at P
  · rename_i xs k q1
    split at P
    · rename_i z
      obtain ⟨a, vs, rfl, h1, h2⟩ := lviewT_at S r1 q1
      cases r2
      exact ⟨a, k, vs, rfl, rfl, h1, z.1, z.2.1, by rw [← h2.length]; exact z.2.2, fun p hp => P.ret S hp (h2.rep _)⟩
    · exact P.elim
  · exact P.elim
theorem scal_at {G : Hp} {m : List Addr} {x y : W} {v u : V} {b : Bool} (r1 : RW K G m x v) (r2 : RW K G m y u) (h : scalW x y = some b) : scal v u = true ∧ decide (v = u) = b := by
  cases r1 <;> cases r2 <;> first
    | (cases h; done)
    | (cases h; exact ⟨rfl, rfl⟩)
    | (cases h; exact ⟨rfl, by simp⟩)
theorem deep_at {F G : Hp} {m : List Addr} {st : Store} {H : Hp} {x y : W} {v u : V} {b : Bool} (S : Sim K mg F G m st H) (r1 : RW K G m x v) (r2 : RW K G m y u) (h : eqDeep x y st = some b) :
    ∃ d e, Dp K H v d ∧ Dp K H u e ∧ SeqAt.shaped d = true ∧ SeqAt.shaped e = true ∧ PyData.eqv d e = b := by
  unfold eqDeep at h
  split at h
  · rename_i d e q1 q2
    split at h
    · rename_i z
      cases h
      exact ⟨d, e, datC_at S r1 q1, datC_at S r2 q2, z.1, z.2, rfl⟩
    · cases h
  · cases h
theorem ok_eq : OpOk K mg E (fun x y H Q => rEq x y H Q ∨ rEqD K x y H Q) oEq := by
  intro F G m st H x y v u Q S r1 r2 P
  unfold oEq at P
  split at P
  · rename_i b q
    unfold eqAny at q
    split at q
    · rename_i b' q2
      cases q
      obtain ⟨h1, h2⟩ := scal_at r1 r2 q2
      refine .inl ⟨h1, ?_⟩
      rw [h2]
      exact P.ret S (.bl _)
    · obtain ⟨d, e, h1, h2, h3, h4, h5⟩ := deep_at S r1 r2 q
      refine .inr ⟨d, e, h1, h2, h3, h4, ?_⟩
      rw [h5]
      exact P.ret S (.bl _)
  · exact P.elim
theorem ok_ne : OpOk K mg E (fun x y H Q => rNe x y H Q ∨ rNeD K x y H Q) oNe := by
  intro F G m st H x y v u Q S r1 r2 P
  unfold oNe at P
  split at P
  · rename_i b q
    unfold eqAny at q
    split at q
    · rename_i b' q2
      cases q
      obtain ⟨h1, h2⟩ := scal_at r1 r2 q2
      refine .inl ⟨h1, ?_⟩
      rw [h2]
      exact P.ret S (.bl _)
    · obtain ⟨d, e, h1, h2, h3, h4, h5⟩ := deep_at S r1 r2 q
      refine .inr ⟨d, e, h1, h2, h3, h4, ?_⟩
      rw [h5]
      exact P.ret S (.bl _)
  · exact P.elim
theorem RWs.atI {G : Hp} {m : List Addr} {xs : List W} {vs : List V} {i : Int} {w : W} (r : RWs K G m xs vs) (h : L2.atI xs i = some w) : ∃ v, L2.atI vs i = some v ∧ RW K G m w v := by
  unfold L2.atI at h ⊢
  rw [← r.length]
  cases q : ixN xs.length i with
  | none => rw [q] at h; cases h
  | some j =>
    rw [q] at h
    exact r.get h
theorem ok_ix : OpOk K mg E (rIx K) oIx := by
  intro F G m st H x y v u Q S r1 r2 P
  unfold oIx at P
  split at P
  · rename_i xs i q1
    cases r2
    split at P
    · rename_i w q2
      obtain ⟨a, vs, rfl, h1, h2⟩ := sview_at S r1 q1
      obtain ⟨z, h3, h4⟩ := h2.atI q2
      rcases h1 with h1 | h1
      · exact .inl ⟨a, vs, i, z, rfl, rfl, h1, h3, P.ret S h4⟩
      · exact .inr (.inl ⟨a, vs, i, z, rfl, rfl, h1, h3, P.ret S h4⟩)
    · exact P.elim
  · exact P.elim
theorem ok_isN : OpOk K mg E (fun x y H Q => y = .non ∧ Q (.bl (decide (x = .non))) H) oIsN := by
  intro F G m st H x y v u Q S r1 r2 P
  unfold oIsN at P
  split at P
  · cases r2
    refine ⟨rfl, ?_⟩
    split at P
    · cases r1
      exact P.ret S (.bl true)
    · rename_i hn
      have : decide (v = V.non) = false := by
        cases r1 <;> first | (exact absurd rfl hn) | (exact decide_eq_false (by intro q; cases q))
      rw [this]
      exact P.ret S (.bl false)
  · exact P.elim
theorem ok_notN : OpOk K mg E (fun x y H Q => y = .non ∧ Q (.bl (!decide (x = .non))) H) oNotN := by
  intro F G m st H x y v u Q S r1 r2 P
  unfold oNotN at P
  split at P
  · cases r2
    refine ⟨rfl, ?_⟩
    split at P
    · cases r1
      exact P.ret S (.bl false)
    · rename_i hn
      have : decide (v = V.non) = false := by
        cases r1 <;> first | (exact absurd rfl hn) | (exact decide_eq_false (by intro q; cases q))
      rw [this]
      exact P.ret S (.bl true)
  · exact P.elim
end

section
variable {X : Cx} {E : XK} {a b e c : Expr} {es : List Expr} {da db d : Env → M W} {ds : Env → M (List W)} {pos : Pos} {dt du : Env → M Bool}
def dOpF (f : W → W → M (List W)) (a b : Env → M W) : Env → M (List W) := fun env st => (a env st).bind fun x st => (b env st).bind fun y st => f x y st
theorem jf_op {r : R2} {f : W → W → M (List W)} {op : Operator} (ho : OpR X (binaryOp op) r) (hf : OpOkF X.K X.mg E r f) (ha : JE X E a da) (hb : JE X E b db) : JF X E (.BinOp a op b pos) (dOpF f da db) := by
  refine weakE (pe_op ho ha hb) ?_
  rintro σ H Q ⟨F, G, m, env, st, S, R, P⟩
  refine ⟨F, G, m, env, st, S, R, (PostF.bind (R := RW) P).imp fun v1 H1 ⟨G1, m1, x, st1, e1, S1, r1, P1⟩ => ⟨F, G1, m1, env, st1, S1, R.mono e1, (PostF.bind (R := RW) P1).imp fun v2 H2 ⟨G2, m2, y, st2, e2, S2, r2, P2⟩ => hf F G2 m2 st2 H2 x y v1 v2 Q S2 (RW.mono e2 r1) r2 P2⟩⟩
theorem je_add (ha : JE X E a da) (hb : JE X E b db) : JE X E (.BinOp a .Add b pos) (dOp (oI fun i j => .int (i + j)) da db) := je_op op_add (ok_I fun i j _ _ => .int _) ha hb
theorem je_sub (ha : JE X E a da) (hb : JE X E b db) : JE X E (.BinOp a .Sub b pos) (dOp (oI fun i j => .int (i - j)) da db) := je_op op_sub (ok_I fun i j _ _ => .int _) ha hb
theorem je_mul (ha : JE X E a da) (hb : JE X E b db) : JE X E (.BinOp a .Mult b pos) (dOp (oIC CMul fun i j => .int (i * j)) da db) := je_op op_mul (ok_IC fun i j _ _ => .int _) ha hb
theorem je_mod (ha : JE X E a da) (hb : JE X E b db) : JE X E (.BinOp a .Mod b pos) (dOp (oIC (fun _ j => 0 < j) fun i j => .int (i % j)) da db) := je_op op_mod (ok_IC fun i j _ _ => .int _) ha hb
theorem je_fdiv (ha : JE X E a da) (hb : JE X E b db) : JE X E (.BinOp a .FloorDiv b pos) (dOp (oIC CDiv fun i j => .int (i / j)) da db) := je_op op_fdiv (ok_IC fun i j _ _ => .int _) ha hb
theorem je_addS (ha : JE X E a da) (hb : JE X E b db) : JE X E (.BinOp a .Add b pos) (dOp oStr da db) := je_op op_add_str ok_str ha hb
theorem jf_cat (ha : JE X E a da) (hb : JE X E b db) : JF X E (.BinOp a .Add b pos) (dOpF oCat da db) := jf_op op_cat ok_cat ha hb
theorem jf_rep (ha : JE X E a da) (hb : JE X E b db) : JF X E (.BinOp a .Mult b pos) (dOpF oRep da db) := jf_op op_rep ok_rep ha hb
theorem je_lt (ha : JE X E a da) (hb : JE X E b db) : JE X E (.Compare a [.Lt] [b] pos) (dOp (oI fun i j => .bl (decide (i < j))) da db) := je_cmp op_lt (ok_I fun i j _ _ => .bl _) ha hb (nomark _)
theorem je_le (ha : JE X E a da) (hb : JE X E b db) : JE X E (.Compare a [.LtE] [b] pos) (dOp (oI fun i j => .bl (decide (i ≤ j))) da db) := je_cmp op_le (ok_I fun i j _ _ => .bl _) ha hb (nomark _)
theorem je_gt (ha : JE X E a da) (hb : JE X E b db) : JE X E (.Compare a [.Gt] [b] pos) (dOp (oI fun i j => .bl (decide (j < i))) da db) := je_cmp op_gt (ok_I fun i j _ _ => .bl _) ha hb (nomark _)
theorem je_ge (ha : JE X E a da) (hb : JE X E b db) : JE X E (.Compare a [.GtE] [b] pos) (dOp (oI fun i j => .bl (decide (j ≤ i))) da db) := je_cmp op_ge (ok_I fun i j _ _ => .bl _) ha hb (nomark _)
theorem je_eq (hu : X.A.units + 64 < cLine) (ha : JE X E a da) (hb : JE X E b db) : JE X E (.Compare a [.Eq] [b] pos) (dOp oEq da db) := je_cmp (op_eq.or (op_eqD hu)) ok_eq ha hb (nomark _)
theorem je_ne (hu : X.A.units + 64 < cLine) (ha : JE X E a da) (hb : JE X E b db) : JE X E (.Compare a [.NotEq] [b] pos) (dOp oNe da db) := je_cmp (op_ne.or (op_neD hu)) ok_ne ha hb (nomark _)
theorem je_isN (ha : JE X E a da) (hb : JE X E b db) : JE X E (.Compare a [.Is] [b] pos) (dOp oIsN da db) := je_cmp op_isN ok_isN ha hb (nomark _)
theorem je_notN (ha : JE X E a da) (hb : JE X E b db) : JE X E (.Compare a [.IsNot] [b] pos) (dOp oNotN da db) := je_cmp op_notN ok_notN ha hb (nomark _)
theorem je_at (ha : JE X E a da) (hb : JE X E b db) (hs : PlainIx b := by exact fun _ _ => rfl) : JE X E (.Subscript a b pos) (dOp oIx da db) := je_ix ix_seq ok_ix ha hb hs
def oNeg : W → M W := fun x st => match x with
  | .int i => .ok (.int (-i)) st
  | _ => .stuck
theorem je_neg (ha : JE X E a da) : JE X E (.UnaryOp .USub a pos) (dUn oNeg da) := je_un un_neg (by
  intro F G m st H x v Q S r P
  unfold oNeg at P
  split at P
  · cases r
    exact ⟨_, rfl, P.ret S (.int _)⟩
  · exact P.elim) ha

/-! ### tests -/
/-- a value that is a bool, as a test -/
def asB : W → M Bool := fun w st => match w with
  | .bl b => .ok b st
  | _ => .stuck
def dB (d : Env → M W) : Env → M Bool := fun env st => (d env st).bind asB
theorem jt_of {t : TT} {r : V → Hp → (Bool → Hp → Prop) → Prop} {f : W → M Bool} (h : PT X e fun σ H Q => tE X.K X.mg E d σ H fun x H1 => r x H1 Q) (hf : TruOk X.K X.mg E r f) : JT X E e fun env st => (d env st).bind f := by
  refine weakT h ?_
  rintro σ H Q ⟨F, G, m, env, st, S, R, P⟩
  exact ⟨F, G, m, env, st, S, R, P.bind.imp fun v1 H1 ⟨G1, m1, x, st1, e1, S1, r1, P1⟩ => hf F G1 m1 st1 H1 x v1 Q S1 r1 P1⟩
theorem tru_B {K : PySem.W.Frag} {mg : MG} : TruOk K mg E (fun x H Q => ∃ k, x = .bl k ∧ Q k H) asB := by
  intro F G m st H x v Q S r P
  unfold asB at P
  split at P
  · cases r
    exact ⟨_, rfl, P.ret S rfl⟩
  · exact P.elim
theorem jt_val (h : JE X E e d) (he : ∀ whole, isTrue e X.env whole = (do let v ← whole; standAt e.pos; holding [v] (truthy v)) := by intro _; rfl) : JT X E e (dB d) :=
  jt_of (t := tB (tE X.K X.mg E d)) (pt_val h he) tru_B
/-- a comparison as a test -/
theorem jt_cmp {op : CmpOp} {r : R2} {f : W → W → M W} (ho : OpR X (compareOp op) r) (hf : OpOk X.K X.mg E r f) (ha : JE X E a da) (hb : JE X E b db) (hm : behindInMarks op b = false) : JT X E (.Compare a [op] [b] pos) (dB (dOp f da db)) := by
  refine weakT (pt_cmpR ho ha hb hm) ?_
  rintro σ H Q ⟨F, G, m, env, st, S, R, P⟩
  have P2 : Post RB X.K X.mg E F G m ((da env st).bind fun x st => (db env st).bind fun y st => (f x y st).bind asB) Q := by
    unfold dB dOp at P
    cases q : da env st with
    | stuck => rw [q] at P; exact P
    | exc x st => rw [q] at P; exact P
    | ok x st =>
      rw [q] at P
      simp only [Out.bind_ok] at P ⊢
      cases q2 : db env st with
      | stuck => rw [q2] at P; exact P
      | exc x st => rw [q2] at P; exact P
      | ok y st => rw [q2] at P; exact P
  exact two S R P2 fun F G m st H x y v u S1 r1 r2 P1 => hf F G m st H x y v u _ S1 r1 r2 (P1.bind.imp fun w H2 ⟨G2, m2, z, st2, e2, S2, r3, P3⟩ => tru_B F G2 m2 st2 H2 z w Q S2 r3 P3)
theorem jt_lt (ha : JE X E a da) (hb : JE X E b db) : JT X E (.Compare a [.Lt] [b] pos) (dB (dOp (oI fun i j => .bl (decide (i < j))) da db)) := jt_cmp op_lt (ok_I fun i j _ _ => .bl _) ha hb (nomark _)
theorem jt_le (ha : JE X E a da) (hb : JE X E b db) : JT X E (.Compare a [.LtE] [b] pos) (dB (dOp (oI fun i j => .bl (decide (i ≤ j))) da db)) := jt_cmp op_le (ok_I fun i j _ _ => .bl _) ha hb (nomark _)
theorem jt_gt (ha : JE X E a da) (hb : JE X E b db) : JT X E (.Compare a [.Gt] [b] pos) (dB (dOp (oI fun i j => .bl (decide (j < i))) da db)) := jt_cmp op_gt (ok_I fun i j _ _ => .bl _) ha hb (nomark _)
theorem jt_ge (ha : JE X E a da) (hb : JE X E b db) : JT X E (.Compare a [.GtE] [b] pos) (dB (dOp (oI fun i j => .bl (decide (j ≤ i))) da db)) := jt_cmp op_ge (ok_I fun i j _ _ => .bl _) ha hb (nomark _)
theorem jt_eq (hu : X.A.units + 64 < cLine) (ha : JE X E a da) (hb : JE X E b db) : JT X E (.Compare a [.Eq] [b] pos) (dB (dOp oEq da db)) := jt_cmp (op_eq.or (op_eqD hu)) ok_eq ha hb (nomark _)
theorem jt_ne (hu : X.A.units + 64 < cLine) (ha : JE X E a da) (hb : JE X E b db) : JT X E (.Compare a [.NotEq] [b] pos) (dB (dOp oNe da db)) := jt_cmp (op_ne.or (op_neD hu)) ok_ne ha hb (nomark _)
theorem jt_isN (ha : JE X E a da) (hb : JE X E b db) : JT X E (.Compare a [.Is] [b] pos) (dB (dOp oIsN da db)) := jt_cmp op_isN ok_isN ha hb (nomark _)
theorem jt_notN (ha : JE X E a da) (hb : JE X E b db) : JT X E (.Compare a [.IsNot] [b] pos) (dB (dOp oNotN da db)) := jt_cmp op_notN ok_notN ha hb (nomark _)
def dAnd (a b : Env → M Bool) : Env → M Bool := fun env st => (a env st).bind fun c st => if c = true then b env st else .ok false st
def dOr (a b : Env → M Bool) : Env → M Bool := fun env st => (a env st).bind fun c st => if c = true then .ok true st else b env st
def dNot (a : Env → M Bool) : Env → M Bool := fun env st => (a env st).bind fun c st => .ok (!c) st
abbrev JW (X : Cx) (E : XK) (e : Expr) (d : Env → M Bool) : Prop := PW X e (tT X.K X.mg E d)
theorem weakW {t t' : TT} (h : PW X e t) (w : ∀ σ H Q, t' σ H Q → t σ H Q) : PW X e t' := ⟨fun wh pins s σ H Q I q => h.run wh pins s σ H Q I (w σ H Q q)⟩
theorem jw_and1 (h : JT X E a dt) : JW X E (.BoolOp .And [a] pos) dt := pw_and1 h
theorem jw_or1 (h : JT X E a dt) : JW X E (.BoolOp .Or [a] pos) dt := pw_or1 h
theorem jw_and {rest : List Expr} (ha : JT X E a dt) (hb : JW X E (.BoolOp .And (b :: rest) pos) du) : JW X E (.BoolOp .And (a :: b :: rest) pos) (dAnd dt du) := by
  refine weakW (pw_and ha hb) ?_
  rintro σ H Q ⟨F, G, m, env, st, S, R, P⟩
  refine ⟨F, G, m, env, st, S, R, (P.bind (R := RB)).imp fun c' H1 ⟨G1, m1, c, st1, e1, S1, r1, P1⟩ => ?_⟩
  cases r1
  cases c' with
  | true => exact ⟨F, G1, m1, env, st1, S1, R.mono e1, P1⟩
  | false => exact P1.ret S1 rfl
theorem jw_or {rest : List Expr} (ha : JT X E a dt) (hb : JW X E (.BoolOp .Or (b :: rest) pos) du) : JW X E (.BoolOp .Or (a :: b :: rest) pos) (dOr dt du) := by
  refine weakW (pw_or ha hb) ?_
  rintro σ H Q ⟨F, G, m, env, st, S, R, P⟩
  refine ⟨F, G, m, env, st, S, R, (P.bind (R := RB)).imp fun c' H1 ⟨G1, m1, c, st1, e1, S1, r1, P1⟩ => ?_⟩
  cases r1
  cases c' with
  | false => exact ⟨F, G1, m1, env, st1, S1, R.mono e1, P1⟩
  | true => exact P1.ret S1 rfl
theorem jt_w (h : JW X E e dt) : JT X E e dt := h.pt
theorem jt_not (h : JT X E a dt) : JT X E (.UnaryOp .Not a pos) (dNot dt) := by
  refine weakT (pt_not h) ?_
  rintro σ H Q ⟨F, G, m, env, st, S, R, P⟩
  refine ⟨F, G, m, env, st, S, R, (P.bind (R := RB)).imp fun c' H1 ⟨G1, m1, c, st1, e1, S1, r1, P1⟩ => ?_⟩
  cases r1
  exact P1.ret S1 rfl
/-- and, or, not as values of bools -/
def dAndV (a b : Env → M W) : Env → M W := fun env st => (a env st).bind fun w st => match w with
  | .bl true => b env st
  | .bl false => .ok (.bl false) st
  | _ => .stuck
def dOrV (a b : Env → M W) : Env → M W := fun env st => (a env st).bind fun w st => match w with
  | .bl true => .ok (.bl true) st
  | .bl false => b env st
  | _ => .stuck
theorem je_one {op} (h : JE X E a d) : JE X E (.BoolOp op [a] pos) d := pe_one h
theorem je_and {rest : List Expr} (ha : JE X E a da) (hb : JE X E (.BoolOp .And (b :: rest) pos) db) : JE X E (.BoolOp .And (a :: b :: rest) pos) (dAndV da db) := by
  refine weakE (pe_and ha hb) ?_
  rintro σ H Q ⟨F, G, m, env, st, S, R, P⟩
  refine ⟨F, G, m, env, st, S, R, P.bind.imp fun v H1 ⟨G1, m1, w, st1, e1, S1, r1, P1⟩ => ?_⟩
  split at P1
  · cases r1
    exact ⟨true, rfl, F, G1, m1, env, st1, S1, R.mono e1, P1⟩
  · cases r1
    exact ⟨false, rfl, P1.ret S1 (.bl false)⟩
  · exact P1.elim
theorem je_or {rest : List Expr} (ha : JE X E a da) (hb : JE X E (.BoolOp .Or (b :: rest) pos) db) : JE X E (.BoolOp .Or (a :: b :: rest) pos) (dOrV da db) := by
  refine weakE (pe_or ha hb) ?_
  rintro σ H Q ⟨F, G, m, env, st, S, R, P⟩
  refine ⟨F, G, m, env, st, S, R, P.bind.imp fun v H1 ⟨G1, m1, w, st1, e1, S1, r1, P1⟩ => ?_⟩
  split at P1
  · cases r1
    exact ⟨true, rfl, P1.ret S1 (.bl true)⟩
  · cases r1
    exact ⟨false, rfl, F, G1, m1, env, st1, S1, R.mono e1, P1⟩
  · exact P1.elim
def dIf (t : Env → M Bool) (a b : Env → M W) : Env → M W := fun env st => (t env st).bind fun c st => if c = true then a env st else b env st
theorem je_if (hc : JT X E c dt) (ha : JE X E a da) (hb : JE X E b db) : JE X E (.IfExp c a b pos) (dIf dt da db) := by
  refine weakE (pe_ifExp hc ha hb) ?_
  rintro σ H Q ⟨F, G, m, env, st, S, R, P⟩
  refine ⟨F, G, m, env, st, S, R, (P.bind (R := RB)).imp fun c' H1 ⟨G1, m1, c, st1, e1, S1, r1, P1⟩ => ?_⟩
  cases r1
  cases c' with
  | true => exact ⟨F, G1, m1, env, st1, S1, R.mono e1, P1⟩
  | false => exact ⟨F, G1, m1, env, st1, S1, R.mono e1, P1⟩
end
end Sh


set_option maxRecDepth 100000
set_option maxHeartbeats 2000000
namespace Sh
open PySem L2 Evl
variable [Wd]
section
variable {X : Cx} {E : XK} {a b e c : Expr} {es : List Expr} {da db d : Env → M W} {ds : Env → M (List W)} {pos : Pos} {dt du : Env → M Bool} {st1 : Stmt} {rest : List Stmt} {s1 s2 : S}
/-! ### blocks -/
def SOut.seq (o : SOut) (t : S) : SOut := match o with
  | .nx env st => t env st
  | o => o
@[simp] theorem SOut.seq_nx (env : Env) (st : Store) (t : S) : (SOut.nx env st).seq t = t env st := rfl
@[simp] theorem SOut.seq_rt (w : W) (st : Store) (t : S) : (SOut.rt w st).seq t = .rt w st := rfl
@[simp] theorem SOut.seq_bk (env : Env) (st : Store) (t : S) : (SOut.bk env st).seq t = .bk env st := rfl
@[simp] theorem SOut.seq_ct (env : Env) (st : Store) (t : S) : (SOut.ct env st).seq t = .ct env st := rfl
@[simp] theorem SOut.seq_exc (x : Exn) (st : Store) (t : S) : (SOut.exc x st).seq t = .exc x st := rfl
@[simp] theorem SOut.seq_stuck (t : S) : SOut.stuck.seq t = .stuck := rfl
def sNil : S := fun env st => .nx env st
def sSeq (s t : S) : S := fun env st => (s env st).seq t
theorem jss_nil : JSs X E [] sNil := by
  refine weakSs pss_nil ?_
  rintro D σ H ⟨F, G, m, env, st, S, R, P⟩
  exact P G m σ H (Ext.refl G m) S R
theorem jss_cons (h1 : JS X E st1 s1) (h2 : JSs X E rest s2) : JSs X E (st1 :: rest) (sSeq s1 s2) := by
  refine weakSs (pss_cons h1 h2) ?_
  rintro D σ H ⟨F, G, m, env, st, S, R, P⟩
  refine ⟨F, G, m, env, st, S, R, ?_⟩
  unfold sSeq at P
  cases q : s1 env st with
  | stuck => rw [q] at P; exact P
  | nx env' st' =>
    rw [q] at P
    exact fun G1 m1 σ1 H1 e1 S1 R1 => ⟨F, G1, m1, env', st', S1, R1, PostS.mono e1 P⟩
  | rt w st' => rw [q] at P; exact P
  | bk env' st' => rw [q] at P; exact P
  | ct env' st' => rw [q] at P; exact P
  | exc x st' => rw [q] at P; exact P
theorem jss_one (h1 : JS X E st1 s1) : JSs X E [st1] s1 := pss_one h1
theorem js_pass : JS X E (.Pass pos) sNil := by
  refine weakS ps_pass ?_
  rintro D σ H ⟨F, G, m, env, st, S, R, P⟩
  exact P G m σ H (Ext.refl G m) S R
theorem js_doc {x j pos pos'} : JS X E (.Expr (.Constant (.str x) j pos) pos') sNil := by
  refine weakS ps_doc ?_
  rintro D σ H ⟨F, G, m, env, st, S, R, P⟩
  exact P G m σ H (Ext.refl G m) S R
def sBreak : S := fun env st => .bk env st
def sCont : S := fun env st => .ct env st
theorem js_break : JS X E (.Break pos) sBreak := by
  refine weakS ps_break ?_
  rintro D σ H ⟨F, G, m, env, st, S, R, P⟩
  exact P G m σ H (Ext.refl G m) S R
theorem js_continue : JS X E (.Continue pos) sCont := by
  refine weakS ps_continue ?_
  rintro D σ H ⟨F, G, m, env, st, S, R, P⟩
  exact P G m σ H (Ext.refl G m) S R
def sRet (d : Env → M W) : S := fun env st => (d env st).bindS fun w st => .rt w st
theorem js_ret (h : JE X E e d) : JS X E (.Return (some e) pos) (sRet d) := by
  refine weakS (ps_ret h) ?_
  rintro D σ H ⟨F, G, m, env, st, S, R, P⟩
  exact ⟨F, G, m, env, st, S, R, (P.bindS (R := RW)).imp fun v H1 ⟨G1, m1, w, st1, e1, S1, r1, P1⟩ => P1 G1 m1 v H1 (Ext.refl G1 m1) S1 r1⟩
def sRetN : S := fun _ st => .rt .non st
theorem js_retN : JS X E (.Return none pos) sRetN := by
  refine weakS ps_retN ?_
  rintro D σ H ⟨F, G, m, env, st, S, R, P⟩
  exact P G m .non H (Ext.refl G m) S .non
def sDrop (d : Env → M W) : S := fun env st => (d env st).bindS fun _ st => .nx env st
theorem js_expr (h : JE X E e d) (hs : swapsWith e none pos.line X.env = pure false := by rfl) : JS X E (.Expr e pos) (sDrop d) := by
  refine weakS (ps_expr h hs) ?_
  rintro D σ H ⟨F, G, m, env, st, S, R, P⟩
  exact ⟨F, G, m, env, st, S, R, (P.bindS (R := RW)).imp fun v H1 ⟨G1, m1, w, st1, e1, S1, r1, P1⟩ => P1 G1 m1 σ H1 (Ext.refl G1 m1) S1 (R.mono e1)⟩
def sIf (t : Env → M Bool) (s u : S) : S := fun env st => (t env st).bindS fun c st => if c = true then s env st else u env st
theorem js_if {xs ys : List Stmt} (hc : JT X E c dt) (ha : JSs X E xs s1) (hb : JSs X E ys s2) : JS X E (.If c xs ys pos) (sIf dt s1 s2) := by
  refine weakS (ps_if hc ha hb) ?_
  rintro D σ H ⟨F, G, m, env, st, S, R, P⟩
  refine ⟨F, G, m, env, st, S, R, (P.bindS (R := RB)).imp fun c' H1 ⟨G1, m1, c, st1, e1, S1, r1, P1⟩ => ?_⟩
  cases r1
  cases c' with
  | true => exact ⟨F, G1, m1, env, st1, S1, R.mono e1, P1⟩
  | false => exact ⟨F, G1, m1, env, st1, S1, R.mono e1, P1⟩
/-- x = e -/
def sSet (i : Nat) (d : Env → M W) : S := fun env st => (d env st).bindS fun w st => .nx (env.set i (some w)) st
theorem js_set {i : Nat} {x : Str} {pos' : Pos} (hN : X.N.Nodup) (hi : X.N[i]? = some x) (h : JE X E e d) (hx : Loc X.env.scope x := by first | exact .inl rfl | exact .inr rfl) (hs : swapsWith e (some (.Name x pos')) pos.line X.env = pure false := by rfl)
    (hf : X.fn x = true ∨ X.env.scope.names.lookup x = some .local := by first | exact .inl rfl | exact .inr rfl | assumption) : JS X E (.Assign [.Name x pos'] e pos) (sSet i d) := by
  refine weakS (ps_set hN hi hx h hs hf) ?_
  rintro D σ H ⟨F, G, m, env, st, S, R, P⟩
  exact ⟨F, G, m, env, st, S, R, (P.bindS (R := RW)).imp fun v H1 ⟨G1, m1, w, st1, e1, S1, r1, P1⟩ => P1 G1 m1 _ H1 (Ext.refl G1 m1) S1 ((R.mono e1).set r1 i)⟩
/-- x += e, rngW -/
def sAug (i : Nat) (f : Int → Int → Int) (d : Env → M W) : S := fun env st => match env[i]? with
  | some (some (.int a)) => (d env st).bindS fun w st => match w with
    | .int b => .nx (env.set i (some (.int (f a b)))) st
    | _ => .stuck
  | _ => .stuck
theorem js_aug {i : Nat} {x : Str} {op : Operator} {f : Int → Int → Int} {pos' : Pos} (hN : X.N.Nodup) (hi : X.N[i]? = some x) (h : JE X E e d) (ho : PIp X op (ipI f)) (hx : Loc X.env.scope x := by first | exact .inl rfl | exact .inr rfl)
    (hf : X.fn x = true ∨ X.env.scope.names.lookup x = some .local := by first | exact .inl rfl | exact .inr rfl | assumption) : JS X E (.AugAssign (.Name x pos') op e pos) (sAug i f d) := by
  refine weakS (ps_aug hN hi hx h ho hf) ?_
  rintro D σ H ⟨F, G, m, env, st, S, R, P⟩
  unfold sAug at P
  split at P
  · rename_i z q
    obtain ⟨v, h1, h2⟩ := R.2 i _ q
    cases h2
    refine ⟨.int z, h1, F, G, m, env, st, S, R, (P.bindS (R := RW)).imp fun v H1 ⟨G1, m1, w, st1, e1, S1, r1, P1⟩ => ?_⟩
    split at P1
    · cases r1
      exact ⟨_, _, rfl, rfl, P1 G1 m1 _ H1 (Ext.refl G1 m1) S1 ((R.mono e1).set (.int _) i)⟩
    · exact P1.elim
  · exact P.elim

/-! ### targets -/
abbrev T := W → Env → M Env
abbrev Ts := List W → Env → M Env
/-- the slots at sl alone may differ -/
def Off (sl : List Nat) (σ σ' : L2.St) : Prop := ∀ vs : List Nat, (∀ i ∈ sl, i ∈ vs) → wipe σ' vs = wipe σ vs
def PostT (K : PySem.W.Frag) (mg : MG) (F G : Hp) (m : List Addr) (sl : List Nat) (σ : L2.St) (o : Out Env) (Q : L2.St → Hp → Prop) : Prop := match o with
  | .ok env st => ∀ G' m' σ' H', Ext G m G' m' → Sim K mg F G' m' st H' → REnv K G' m' env σ' → Off sl σ σ' → Q σ' H'
  | _ => False
theorem PostT.mono {K : PySem.W.Frag} {mg : MG} {F G G' : Hp} {m m' : List Addr} {sl : List Nat} {σ : L2.St} {o : Out Env} {Q : L2.St → Hp → Prop} (e : Ext G m G' m') (h : PostT K mg F G m sl σ o Q) : PostT K mg F G' m' sl σ o Q := by
  cases o with
  | ok env st => exact fun G2 m2 s2 H2 e2 => h G2 m2 s2 H2 (e.trans e2)
  | stuck => exact h
  | exc x st => exact h
def tG (K : PySem.W.Frag) (mg : MG) (sl : List Nat) (g : T) : TG := fun v σ H Q => ∃ F G m env st w, Sim K mg F G m st H ∧ REnv K G m env σ ∧ RW K G m w v ∧ PostT K mg F G m sl σ (g w env st) Q
def tGs (K : PySem.W.Frag) (mg : MG) (sl : List Nat) (g : Ts) : TGs := fun vs σ H Q => ∃ F G m env st ws, Sim K mg F G m st H ∧ REnv K G m env σ ∧ RWs K G m ws vs ∧ PostT K mg F G m sl σ (g ws env st) Q
abbrev JG (X : Cx) (e : Expr) (sl : List Nat) (g : T) : Prop := PG X e (tG X.K X.mg sl g)
abbrev JGs (X : Cx) (e : List Expr) (sl : List Nat) (g : Ts) : Prop := PGs X e (tGs X.K X.mg sl g)
theorem wipe_at {σ : L2.St} {x : Option V} : ∀ {vs : List Nat} {i : Nat}, i ∈ vs → wipe (σ.set i x) vs = wipe σ vs
  | v :: vs, i, h => by
    unfold wipe
    by_cases e : i = v
    · subst e
      by_cases h2 : i ∈ vs
      · rw [wipe_at h2]
      · have : ∀ vs : List Nat, wipe (σ.set i x) vs = (wipe σ vs).set i (if i ∈ vs then none else x) := by
          intro vs
          induction vs with
          | nil => rfl
          | cons u us ih =>
            unfold wipe
            rw [ih]
            by_cases q : i = u
            · subst q
              simp
            · rw [List.set_comm _ _ q]
              simp [q]
        rw [this]
        simp
    · rcases List.mem_cons.mp h with h | h
      · exact absurd h e
      · rw [wipe_at h]
theorem weakG {t t' : TG} (h : PG X e t) (w : ∀ v σ H Q, t' v σ H Q → t v σ H Q) : PG X e t' := ⟨fun pins s σ H v u Q I r q => h.run pins s σ H v u Q I r (w v σ H Q q)⟩
theorem weakGs {t t' : TGs} (h : PGs X es t) (w : ∀ v σ H Q, t' v σ H Q → t v σ H Q) : PGs X es t' := ⟨fun pins s σ H v u Q I r q => h.run pins s σ H v u Q I r (w v σ H Q q)⟩
def gN (i : Nat) : T := fun w env st => .ok (env.set i (some w)) st
def gsNil : Ts := fun ws env st => match ws with
  | [] => .ok env st
  | _ => .stuck
def gsCons (g : T) (gs : Ts) : Ts := fun ws env st => match ws with
  | w :: ws => (g w env st).bind fun env st => gs ws env st
  | [] => .stuck
theorem jg_name {i : Nat} {x : Str} (hN : X.N.Nodup) (hi : X.N[i]? = some x) (hx : Loc X.env.scope x := by first | exact .inl rfl | exact .inr rfl) (hf : X.fn x = true ∨ X.env.scope.names.lookup x = some .local := by first | exact .inl rfl | exact .inr rfl | assumption) : JG X (.Name x pos) [i] (gN i) := by
  refine weakG (pg_name hN hi hx hf) ?_
  rintro v σ H Q ⟨F, G, m, env, st, w, S, R, r, q⟩
  exact q G m _ H (Ext.refl G m) S (R.set r i) fun vs hv => wipe_at (hv i (List.mem_singleton.mpr rfl))
theorem jgs_nil : JGs X [] [] gsNil := by
  refine weakGs pgs_nil ?_
  rintro v σ H Q ⟨F, G, m, env, st, w, S, R, r, q⟩
  cases r with
  | nil => exact ⟨rfl, q G m σ H (Ext.refl G m) S R fun _ _ => rfl⟩
  | cons a b => exact q.elim
theorem jgs_cons {g : T} {gs : Ts} {s1 s2 : List Nat} (h1 : JG X e s1 g) (h2 : JGs X es s2 gs) (hs : (assignEach (e :: es) X.env).map (·.2) = assign e X.env :: (assignEach es X.env).map (·.2) := by rfl) : JGs X (e :: es) (s1 ++ s2) (gsCons g gs) := by
  refine weakGs (pgs_cons h1 h2 hs) ?_
  rintro v σ H Q ⟨F, G, m, env, st, w, S, R, r, q⟩
  cases r with
  | nil => exact q.elim
  | @cons x v xs vs r1 r2 =>
    refine ⟨v, vs, rfl, F, G, m, env, st, x, S, R, r1, ?_⟩
    unfold gsCons at q
    cases h3 : g x env st with
    | stuck => simp only [h3] at q; exact q
    | exc x st => simp only [h3] at q; exact q
    | ok env1 st1 =>
      simp only [h3, Out.bind_ok] at q
      intro G1 m1 σ1 H1 e1 S1 R1 o1
      refine ⟨F, G1, m1, env1, st1, xs, S1, R1, r2.mono e1, ?_⟩
      have q := PostT.mono e1 q
      cases h4 : gs xs env1 st1 with
      | stuck => rw [h4] at q; exact q
      | exc x st => rw [h4] at q; exact q
      | ok env2 st2 =>
        rw [h4] at q
        exact fun G2 m2 σ2 H2 e2 S2 R2 o2 => q G2 m2 σ2 H2 e2 S2 R2 fun us hu => (o2 us fun i hi => hu i (List.mem_append_right _ hi)).trans (o1 us fun i hi => hu i (List.mem_append_left _ hi))
/-- as many targets as values, or nothing -/
def GsLen (gs : Ts) (n : Nat) : Prop := ∀ ws env st env' st', gs ws env st = .ok env' st' → ws.length = n
theorem gs_len0 : GsLen gsNil 0 := by
  intro ws env st env' st' q
  cases ws with
  | nil => rfl
  | cons => cases q
theorem gs_len {gs : Ts} {n : Nat} {g : T} (h : GsLen gs n) : GsLen (gsCons g gs) (n + 1) := by
  intro ws env st env' st' q
  cases ws with
  | nil => cases q
  | cons w ws =>
    unfold gsCons at q
    cases h3 : g w env st with
    | stuck => simp only [h3] at q; cases q
    | exc x st => simp only [h3] at q; cases q
    | ok env1 st1 =>
      simp only [h3] at q
      rw [List.length_cons, h ws env1 st1 env' st' q]
/-- (a, b, ..) = a tuple -/
def gTu (gs : Ts) : T := fun w env st => match tview w with
  | some ws => gs ws env st
  | none => .stuck
theorem jg_tup {k : Nat} {gs : Ts} {n : Nat} {sl : List Nat} (hc : X.calm = true) (h : JGs X es sl gs) (hl : GsLen gs n) (hn : (assignEach es X.env).length = n := by rfl)
    (hst : (assignEach es X.env).findIdx? (·.1) = none := by rfl) : JG X (.Tuple es k pos) sl (gTu gs) := by
  refine weakG (pg_tup hc h hn hst) ?_
  rintro v σ H Q ⟨F, G, m, env, st, w, S, R, r, q⟩
  unfold gTu at q
  split at q
  · rename_i ws h3
    obtain ⟨a, vs, rfl, h4, h5⟩ := tview_at S r h3
    refine ⟨a, vs, rfl, h4, ?_, F, G, m, env, st, ws, S, R, h5, q⟩
    rw [← h5.length]
    cases h6 : gs ws env st with
    | stuck => rw [h6] at q; exact q.elim
    | exc x st => rw [h6] at q; exact q.elim
    | ok env' st' => exact hl _ _ _ _ _ h6
  · exact q.elim
/-- o[i] as a target: a list in a cell -/
def gAt (o ix : Env → M W) : T := fun w env st => (o env st).bind fun ow st => (ix env st).bind fun iw st => match ow, iw with
  | .cell n, .int k => match lcell st n with
    | some xs => match ixN xs.length k with
      | some j => .ok env (st.set n (.lst (xs.set j w)))
      | none => .stuck
    | none => .stuck
  | _, _ => .stuck
theorem post_of {K : PySem.W.Frag} {mg : MG} {F G : Hp} {m : List Addr} {sl : List Nat} {σ : L2.St} {α β : Type} {R : Rel α β} {o : Out α} {f : α → M Env} {Q : L2.St → Hp → Prop} (h : PostT K mg F G m sl σ (o.bind f) Q) :
    Post R K mg E F G m o fun b H => ∃ G' m' a st, Ext G m G' m' ∧ Sim K mg F G' m' st H ∧ R K G' m' a b ∧ PostT K mg F G' m' sl σ (f a st) Q := by
  cases o with
  | stuck => exact h
  | exc x st => exact h.elim
  | ok a st => exact fun G2 m2 b H2 e s r => ⟨G2, m2, a, st, e, s, r, PostT.mono e h⟩
theorem jg_at {o i : Expr} {dO dI : Env → M W} (ho : JE X E0 o dO) (hi : JE X E0 i dI) (ha : ∀ v, assign (.Subscript o i pos) X.env v = (do
      let ov ← holding [v] (eval o X.env)
      let iv ← holding [v, ov] (eval i X.env)
      standAt pos
      holding [v, ov, iv] (setItem ov iv v)
      release [v, ov, iv] []) := by intro _; rfl) : JG X (.Subscript o i pos) [] (gAt dO dI) := by
  refine weakG (pg_sub ho hi set_list ha) ?_
  rintro v σ H Q ⟨F, G, m, env, st, w, S, R, r, P⟩
  refine ⟨F, G, m, env, st, S, R, (post_of (R := RW) P).imp fun ov H1 ⟨G1, m1, ow, st1, e1, S1, r1, P1⟩ => ?_⟩
  refine ⟨F, G1, m1, env, st1, S1, R.mono e1, (post_of (R := RW) P1).imp fun iv H2 ⟨G2, m2, iw, st2, e2, S2, r2, P2⟩ => ?_⟩
  split at P2
  · rename_i n k _
    split at P2
    · rename_i xs q
      split at P2
      · rename_i j q2
        have q := lcell_some q
        have r1 := RW.mono e2 r1
        have r := RW.mono e2 (RW.mono e1 r)
        cases r2
        cases r1 with
        | @cell _ adr hm =>
          obtain ⟨g0, vs, h2, h3⟩ := S2.ok n _ adr q hm
          refine ⟨adr, vs, k, j, rfl, rfl, h2, by rw [← h3.length]; exact q2, ?_⟩
          exact P2 G2 m2 σ _ (Ext.refl G2 m2) (S2.set q True.intro hm ⟨g0, _, upd_same, h3.set r j⟩) ((R.mono e1).mono e2) fun _ _ => rfl
      · exact P2.elim
    · exact P2.elim
  · exact P2.elim
/-- target = e -/
def sAsg (g : T) (d : Env → M W) : S := fun env st => (d env st).bindS fun w st => (g w env st).nox.bindS fun env st => .nx env st
theorem js_asg {tg : Expr} {g : T} {sl : List Nat} (h : JE X E e d) (hg : JG X tg sl g) (hs : swapsWithSole [tg] e pos.line X.env = pure false := by rfl) (hw : swappedStores [tg] e X.env = pure none := by rfl)
    (h1 : (assignEach [tg] X.env).map (·.2) = [assign tg X.env] := by rfl) : JS X E (.Assign [tg] e pos) (sAsg g d) := by
  refine weakS (ps_asg h hg hs hw h1) ?_
  rintro D σ H ⟨F, G, m, env, st, S, R, P⟩
  refine ⟨F, G, m, env, st, S, R, (P.bindS (R := RW)).imp fun v H1 ⟨G1, m1, w, st1, e1, S1, r1, P1⟩ => ?_⟩
  refine ⟨F, G1, m1, env, st1, w, S1, R.mono e1, r1, ?_⟩
  cases q : g w env st1 with
  | stuck => rw [q] at P1; exact P1.elim
  | exc x st => rw [q] at P1; exact P1.elim
  | ok env2 st2 =>
    rw [q] at P1
    exact fun G2 m2 σ2 H2 e2 S2 R2 _ => P1 G2 m2 σ2 H2 e2 S2 R2
/-- a, b = x, y (plain local names) -/
def sPar (i j : Nat) (ds : Env → M (List W)) : S := fun env st => (ds env st).bindS fun ws st => match ws with
  | [v, w] => .nx ((env.set i (some v)).set j (some w)) st
  | _ => .stuck
theorem js_par {i j : Nat} {x y : Str} {px py pt : Pos} {kt k2 pt2} (hc : X.calm = true) (hN : X.N.Nodup) (hi : X.N[i]? = some x) (hj : X.N[j]? = some y) (hij : i ≠ j)
    (hx : X.env.scope.names.lookup x = some .local) (hy : X.env.scope.names.lookup y = some .local) (ha : JA X E [a, b] ds)
    (hw : swappedStores [.Tuple [.Name x px, .Name y py] kt pt] (.Tuple [a, b] k2 pt2) X.env = pure (some [x, y]))
    (hs : swapsWithSole [.Tuple [.Name x px, .Name y py] kt pt] (.Tuple [a, b] k2 pt2) pos.line X.env = pure false := by rfl) :
    JS X E (.Assign [.Tuple [.Name x px, .Name y py] kt pt] (.Tuple [a, b] k2 pt2) pos) (sPar i j ds) := by
  refine weakS (ps_par hc hN hi hj hij hx hy ha hw hs) ?_
  rintro D σ H ⟨F, G, m, env, st, S, R, P⟩
  refine ⟨F, G, m, env, st, S, R, (P.bindS (R := RA)).imp fun vs H1 ⟨G1, m1, ws, st1, e1, S1, r1, P1⟩ => ?_⟩
  split at P1
  · cases r1 with
    | cons a r =>
      cases r with
      | cons b r =>
        cases r
        exact ⟨_, _, rfl, P1 G1 m1 _ H1 (Ext.refl G1 m1) S1 (((R.mono e1).set a i).set b j)⟩
  · exact P1.elim
end

/-! ### loops -/
/-- the iterator goes through these -/
structure Walks (K : PySem.W.Frag) (mg : MG) (G : Hp) (m : List Addr) (xs : List W) (ok : Store → Prop) (J : It) : Prop where
  go : ∀ i H F G1 m1 st, Ext G m G1 m1 → Sim K mg F G1 m1 st H → ok st → i < xs.length → J.go i H
  stop : ∀ i H F G1 m1 st, Ext G m G1 m1 → Sim K mg F G1 m1 st H → ok st → xs.length ≤ i → J.stop i H
  yld : ∀ i H x H' F G1 m1 st, Ext G m G1 m1 → Sim K mg F G1 m1 st H → ok st → i < xs.length → J.yld i H x H' → ∃ w G2, xs[i]? = some w ∧ Ex G1 G2 ∧ Sim K mg F G2 m1 st H' ∧ RW K G2 m1 w x
theorem Walks.mono {K : PySem.W.Frag} {mg : MG} {G G' : Hp} {m m' : List Addr} {xs : List W} {ok : Store → Prop} {J : It} (e : Ext G m G' m') (w : Walks K mg G m xs ok J) : Walks K mg G' m' xs ok J :=
  ⟨fun i H F G1 m1 st x => w.go i H F G1 m1 st (e.trans x), fun i H F G1 m1 st x => w.stop i H F G1 m1 st (e.trans x), fun i H x H' F G1 m1 st z => w.yld i H x H' F G1 m1 st (e.trans z)⟩
/-- what is walked: the items, and the store's word that they still stand -/
structure It' where
  xs : List W
  ok : Store → Prop
def RI (mg : MG) : Rel It' It := fun K G m a J => Walks K mg G m a.xs a.ok J
def tIt (K : PySem.W.Frag) (mg : MG) (E : XK) (d : Env → M It') : TI := fun σ H R => ∃ F G m env st, Sim K mg F G m st H ∧ REnv K G m env σ ∧ Post (RI mg) K mg E F G m (d env st) R
abbrev JI (X : Cx) (E : XK) (tg e : Expr) (d : Env → M It') : Prop := PI X tg e (tIt X.K X.mg E d)
theorem weakI {X : Cx} {tg e : Expr} {t t' : TI} (h : PI X tg e t) (w : ∀ σ H Q, t' σ H Q → t σ H Q) : PI X tg e t' := ⟨fun pins s σ H R I q => h.run pins s σ H R I (w σ H R q)⟩

open Classical in
/-- a for's turns -/
noncomputable def forGo (ok : Store → Prop) (g : T) (body : S) : List W → Env → Store → SOut
  | [], env, st => if ok st then .nx env st else .stuck
  | w :: ws, env, st => if ok st then (match g w env st with
    | .ok env st => (match body env st with
      | .nx env st => forGo ok g body ws env st
      | .ct env st => forGo ok g body ws env st
      | .bk env st => .nx env st
      | o => o)
    | _ => .stuck) else .stuck
noncomputable def sFor (it : Env → M It') (g : T) (body : S) : S := fun env st => (it env st).bindS fun i st => forGo i.ok g body i.xs env st
section
variable {X : Cx} {E : XK} {a b e c : Expr} {es : List Expr} {da db d : Env → M W} {ds : Env → M (List W)} {pos : Pos} {dt du : Env → M Bool} {st1 : Stmt} {rest : List Stmt} {s1 s2 : S}
theorem js_for {tg iter : Expr} {body : List Stmt} {di : Env → M It'} {g : T} {sl : List Nat} {s : S} (hp : PassesOwn (model X.prog X.w) X.A X.env X.xe) (hc : X.calm = true) (hi : JI X E tg iter di) (hg : JG X tg sl g) (hb : JSs X E body s)
    (hs : ∀ x, foldedSetIterable iter X.env x = pure x := by intro _; rfl) : JS X E (.For tg iter body [] pos) (sFor di g s) := by
  refine weakS (ps_for hp hc hi hg hb hs) ?_
  rintro D σ H ⟨F, G, m, env, st, S, R, P⟩
  refine ⟨F, G, m, env, st, S, R, (P.bindS (R := RI X.mg)).imp fun J H1 ⟨G1, m1, i1, st1, e1, S1, w1, P1⟩ => ?_⟩
  refine ⟨fun i k σ' H' => k = i1.xs.length - i ∧ i ≤ i1.xs.length ∧ ∃ G' m' env' st', Ext G1 m1 G' m' ∧ Sim X.K X.mg F G' m' st' H' ∧ REnv X.K G' m' env' σ' ∧ PostS X.K X.mg E F G' m' (forGo i1.ok g s (i1.xs.drop i) env' st') D,
    ⟨_, rfl, Nat.zero_le _, G1, m1, env, st1, Ext.refl G1 m1, S1, R.mono e1, P1⟩, ?_⟩
  rintro i k σ' H' ⟨rfl, hi, G', m', env', st', e', S', R', P'⟩
  by_cases hlt : i < i1.xs.length
  · rw [List.drop_eq_getElem_cons hlt, forGo] at P'
    split at P'
    · rename_i hok
      refine .inr ⟨w1.go i H' F G' m' st' e' S' hok hlt, fun σ2 H2 => ∃ G2 m2 env2 st2, Ext G1 m1 G2 m2 ∧ Sim X.K X.mg F G2 m2 st2 H2 ∧ REnv X.K G2 m2 env2 σ2 ∧ PostS X.K X.mg E F G2 m2 (forGo i1.ok g s (i1.xs.drop (i + 1)) env2 st2) D,
        fun σ2 H2 h2 => ⟨_, Nat.sub_lt_sub_left hlt (Nat.lt_succ_self i), rfl, hlt, h2⟩, fun x H2 hy => ?_⟩
      obtain ⟨w, G2, hw, eG, S2, r2⟩ := w1.yld i H' x H2 F G' m' st' e' S' hok hlt hy
      rw [List.getElem?_eq_getElem hlt] at hw
      cases hw
      have x2 : Ext G' m' G2 m' := ⟨eG, fun _ _ h => h⟩
      refine ⟨F, G2, m', env', st', _, S2, R'.mono x2, r2, ?_⟩
      cases hg2 : g i1.xs[i] env' st' with
      | stuck => simp only [hg2] at P'; exact P'.elim
      | exc x st => simp only [hg2] at P'; exact P'.elim
      | ok env2 st2 =>
        simp only [hg2] at P'
        intro G3 m3 σ3 H3 e3 S3 R3 _
        refine ⟨F, G3, m3, env2, st2, S3, R3, ?_⟩
        have P2 := PostS.mono e3 (PostS.mono x2 P')
        have ee := (e'.trans x2).trans e3
        cases q : s env2 st2 with
        | stuck => rw [q] at P2; exact P2
        | rt w st4 => rw [q] at P2; exact P2
        | exc x st4 => rw [q] at P2; exact P2
        | bk env4 st4 => rw [q] at P2; exact P2
        | nx env4 st4 =>
          rw [q] at P2
          exact fun G4 m4 σ4 H4 e4 S4 R4 => ⟨G4, m4, env4, st4, ee.trans e4, S4, R4, PostS.mono e4 P2⟩
        | ct env4 st4 =>
          rw [q] at P2
          exact fun G4 m4 σ4 H4 e4 S4 R4 => ⟨G4, m4, env4, st4, ee.trans e4, S4, R4, PostS.mono e4 P2⟩
    · exact P'.elim
  · have hd : i1.xs.drop i = [] := List.drop_eq_nil_of_le (by omega)
    rw [hd, forGo] at P'
    split at P'
    · rename_i hok
      exact .inl ⟨w1.stop i H' F G' m' st' e' S' hok (by omega), P' G' m' σ' H' (Ext.refl G' m') S' R'⟩
    · exact P'.elim
/-- a while's turns, at most n -/
def whileGo (t : Env → M Bool) (body : S) : Nat → Env → Store → SOut
  | 0, _, _ => .stuck
  | n + 1, env, st => (t env st).bindS fun c st => if c = true then (match body env st with
      | .nx env st => whileGo t body n env st
      | .ct env st => whileGo t body n env st
      | .bk env st => .nx env st
      | o => o) else .nx env st
def sWhile (n : Env → Store → Nat) (t : Env → M Bool) (body : S) : S := fun env st => whileGo t body (n env st) env st
theorem js_while {body : List Stmt} {n : Env → Store → Nat} {s : S} (hp : PassesOwn (model X.prog X.w) X.A X.env X.xe) (hc : JT X E c dt) (hb : JSs X E body s) : JS X E (.While c body [] pos) (sWhile n dt s) := by
  refine weakS (ps_while hp hc hb) ?_
  rintro D σ H ⟨F, G, m, env, st, S, R, P⟩
  refine ⟨fun k σ' H' => ∃ G' m' env' st', Sim X.K X.mg F G' m' st' H' ∧ REnv X.K G' m' env' σ' ∧ PostS X.K X.mg E F G' m' (whileGo dt s k env' st') D, ⟨_, G, m, env, st, S, R, P⟩, ?_⟩
  rintro k σ' H' ⟨G', m', env', st', S', R', P'⟩
  cases k with
  | zero => exact P'.elim
  | succ k =>
    rw [whileGo] at P'
    refine ⟨F, G', m', env', st', S', R', (P'.bindS (R := RB)).imp fun c' H1 ⟨G1, m1, c, st1, e1, S1, r1, P1⟩ => ?_⟩
    cases r1
    cases c' with
    | false => exact P1 G1 m1 σ' H1 (Ext.refl G1 m1) S1 (R'.mono e1)
    | true =>
      refine ⟨fun σ2 H2 => ∃ G2 m2 env2 st2, Sim X.K X.mg F G2 m2 st2 H2 ∧ REnv X.K G2 m2 env2 σ2 ∧ PostS X.K X.mg E F G2 m2 (whileGo dt s k env2 st2) D, fun σ2 H2 h2 => ⟨k, Nat.lt_succ_self k, h2⟩, F, G1, m1, env', st1, S1, R'.mono e1, ?_⟩
      have P2 : PostS X.K X.mg E F G1 m1 (match s env' st1 with
        | .nx env st => whileGo dt s k env st
        | .ct env st => whileGo dt s k env st
        | .bk env st => .nx env st
        | o => o) D := P1
      cases q : s env' st1 with
      | stuck => rw [q] at P2; exact P2
      | rt w st4 => rw [q] at P2; exact P2
      | exc x st4 => rw [q] at P2; exact P2
      | bk env4 st4 => rw [q] at P2; exact P2
      | nx env4 st4 =>
        rw [q] at P2
        exact fun G4 m4 σ4 H4 e4 S4 R4 => ⟨G4, m4, env4, st4, S4, R4, PostS.mono e4 P2⟩
      | ct env4 st4 =>
        rw [q] at P2
        exact fun G4 m4 σ4 H4 e4 S4 R4 => ⟨G4, m4, env4, st4, S4, R4, PostS.mono e4 P2⟩

/-- over a list -/
def iL (d : Env → M W) : Env → M It' := fun env st => (d env st).bind fun w st => match w with
  | .lst xs => .ok ⟨xs, fun _ => True⟩ st
  | .fz xs => .ok ⟨xs, fun _ => True⟩ st
  | .cell n => match lcell st n with
    | some xs => .ok ⟨xs, fun st => lcell st n = some xs⟩ st
    | none => .stuck
  | _ => .stuck
theorem walks_list {K : PySem.W.Frag} {mg : MG} {G : Hp} {m : List Addr} {xs : List W} {adr : Addr} {ok : Store → Prop}
    (h : ∀ H F G1 m1 st, Ext G m G1 m1 → Sim K mg F G1 m1 st H → ok st → ∃ vs, SqL K H adr vs ∧ RWs K G1 m1 xs vs)
    : Walks K mg G m xs ok (Itl K adr) where
  go := fun i H F G1 m1 st e S k hi => by
    obtain ⟨vs, h1, h2⟩ := h H F G1 m1 st e S k
    exact ⟨vs, vs[i]'(by rw [← h2.length]; exact hi), h1, List.getElem?_eq_getElem _⟩
  stop := fun i H F G1 m1 st e S k hi => by
    obtain ⟨vs, h1, h2⟩ := h H F G1 m1 st e S k
    exact ⟨vs, h1, by rw [← h2.length]; exact hi⟩
  yld := fun i H x H' F G1 m1 st e S k hi hy => by
    obtain ⟨vs, h1, h2⟩ := h H F G1 m1 st e S k
    obtain ⟨rfl, h3⟩ := hy
    obtain ⟨w, h4, h5⟩ := h2.get' (h3 vs h1)
    exact ⟨w, G1, h4, Ex.refl G1, S, h5⟩
theorem ji_list {tg : Expr} (h : JE X E e d) : JI X E tg e (iL d) := by
  refine weakI (pi_list h) ?_
  rintro σ H Q ⟨F, G, m, env, st, S, R, P⟩
  refine ⟨F, G, m, env, st, S, R, (P.bind (R := RW)).imp fun v H1 ⟨G1, m1, w, st1, e1, S1, r1, P1⟩ => ?_⟩
  split at P1
  · rename_i xs
    cases r1 with
    | @lst p vs _ h1 h2 =>
      refine ⟨p, rfl, ⟨vs, .inl (.inl (S1.ex _ _ h1))⟩, P1.ret S1 (walks_list fun H F G1 m1 st e S k => ⟨vs, .inl (.inl (S.ex _ _ (e.ex _ _ h1))), h2.mono e⟩)⟩
  · rename_i xs
    cases r1 with
    | @fz p vs _ h1 h2 =>
      refine ⟨p, rfl, ⟨vs, ex_l S1.ex h1⟩, P1.ret S1 (walks_list fun H F G1 m1 st e S k => ⟨vs, ex_l S.ex (ex_l e.ex h1), h2.mono e⟩)⟩
  · rename_i n
    split at P1
    · rename_i xs q
      cases r1 with
      | @cell _ adr hm =>
        obtain ⟨g0, vs, h2, h3⟩ := S1.ok n _ adr (lcell_some q) hm
        refine ⟨adr, rfl, ⟨vs, .inl (.inl h2)⟩, P1.ret S1 (walks_list fun H F G1 m1 st e S k => ?_)⟩
        obtain ⟨_, vs', h4, h5⟩ := S.ok n _ adr (lcell_some k) (e.mm _ _ hm)
        exact ⟨vs', .inl (.inl h4), h5⟩
    · exact P1.elim
  · exact P1.elim
/-- lo, lo + 1, .. n of them -/
def rngW (lo : Int) (n : Nat) : List W := (List.range n).map fun (i : Nat) => W.int (lo + (i : Int))
theorem rngW_get {lo : Int} {n i : Nat} (h : i < n) : (rngW lo n)[i]? = some (.int (lo + (i : Int))) := by
  unfold rngW
  rw [List.getElem?_map, List.getElem?_range h]
  rfl
theorem rngW_len {lo : Int} {n : Nat} : (rngW lo n).length = n := by
  unfold rngW
  rw [List.length_map, List.length_range]
def small (i : Int) : Prop := -(2 ^ 62) ≤ i ∧ i < 2 ^ 62
instance (i : Int) : Decidable (small i) := by unfold small; exact inferInstance
theorem walks_range {K : PySem.W.Frag} {mg : MG} {G : Hp} {m : List Addr} {lo : Int} {n : Nat} : Walks K mg G m (rngW lo n) (fun _ => True) (Itr lo n) where
  go := fun i H F G1 m1 st e S k hi => by
    rw [rngW_len] at hi
    exact hi
  stop := fun i H F G1 m1 st e S k hi => by
    rw [rngW_len] at hi
    exact hi
  yld := fun i H x H' F G1 m1 st e S k hi hy => by
    obtain ⟨rfl, rfl⟩ := hy
    rw [rngW_len] at hi
    exact ⟨.int (lo + (i : Int)), G1, rngW_get hi, Ex.refl G1, S, .int _⟩
end
end Sh


set_option maxRecDepth 100000
set_option maxHeartbeats 2000000
namespace Sh
open PySem L2 Evl
variable [Wd]

/-! ### defs -/
/-- a def's promise: it does as the function says -/
def spM (K : PySem.W.Frag) (mg : MG) (f : List W → M W) : Sp := fun vs H Q _ => ∃ F G m ws st, Sim K mg F G m st H ∧ RWs K G m ws vs ∧ Post RW K mg E0 F G m (f ws st).nox Q
def dBody (n tot : Nat) (s : S) : List W → M W := fun ws st => if ws.length = n then (match s (ws.map some ++ List.replicate (tot - n) none) st with
  | .nx _ st => .ok .non st
  | .rt w st => .ok w st
  | .exc x st => .exc x st
  | _ => .stuck) else .stuck
theorem start_env {K : PySem.W.Frag} {G : Hp} {m : List Addr} {N : List Str} {ws : List W} {vs : List V} (r : RWs K G m ws vs) : REnv K G m (ws.map some ++ List.replicate (N.length - ws.length) none) (L2.start N vs) := by
  have hl := r.length
  refine ⟨by simp [L2.start, hl], fun i w q => ?_⟩
  by_cases hi : i < ws.length
  · rw [List.getElem?_append_left (by simpa using hi), List.getElem?_map, List.getElem?_eq_getElem hi] at q
    simp at q
    subst q
    obtain ⟨v, h1, h2⟩ := r.get (List.getElem?_eq_getElem hi)
    refine ⟨v, ?_, h2⟩
    unfold L2.start
    rw [List.getElem?_append_left (by simp; omega), List.getElem?_map, h1]
    rfl
  · rw [List.getElem?_append_right (by simp; omega), List.getElem?_replicate] at q
    split at q <;> cases q
section
variable {P : Program} {w : World} {K : PySem.W.Frag} {mg : MG} {base : Heap} {x qual : Str} {st : Stmt} {f : Addr} {fd : FuncData} {N ps : List Str} {k : Nat}
/-- the body's word as the def's -/
theorem body_ok {X : Cx} {s : S} {ss : List Stmt} {vs : List V} {H : Hp} {Q : VK} (hK : X.K = K) (hm : X.mg = mg) (hb : JSs X E0 ss s) (hN : ps.length ≤ N.length)
    (h : spM K mg (dBody ps.length N.length s) vs H Q E) : ∃ t, PSs X ss t ∧ t { nx := fun _ H' => Q .non H', rt := Q } (L2.start N vs) H := by
  subst hK hm
  refine ⟨_, hb, ?_⟩
  obtain ⟨F, G, m, ws, st, S, r, P⟩ := h
  unfold dBody at P
  split at P
  · rename_i hl
    refine ⟨F, G, m, ws.map some ++ List.replicate (N.length - ws.length) none, st, S, start_env r, ?_⟩
    rw [hl]
    cases q : s (ws.map some ++ List.replicate (N.length - ps.length) none) st with
    | stuck => rw [q] at P; exact P
    | bk env st => rw [q] at P; exact P.elim
    | ct env st => rw [q] at P; exact P.elim
    | exc x st => rw [q] at P; exact P.elim
    | rt w st => rw [q] at P; exact P
    | nx env st =>
      rw [q] at P
      exact fun G1 m1 σ1 H1 e1 S1 R1 => P G1 m1 .non H1 e1 S1 .non
  · exact P.elim
theorem spM_len {s : S} {n tot : Nat} {vs : List V} {H : Hp} {Q : VK} {E : XK} (h : spM K mg (dBody n tot s) vs H Q E) : vs.length = n := by
  obtain ⟨F, G, m, ws, st, S, r, P⟩ := h
  unfold dBody at P
  split at P
  · rename_i hl
    rw [← r.length]
    exact hl
  · exact P.elim
theorem fn_ok {s : S} (F : Fun K x qual st f fd) (hS : FnScope N ps (defScope st)) (hN : ps.length ≤ N.length)
    (hb : ∀ (cdv : Value) (A : Around) (outer : List PySem.Env) (sh : Shared) (H : Hp) (E : XK), Room k (A.deeper (PyProof.Rows.envOfC qual (defScope st) sh.heap.objs.size f cdv)) → JSs (cxOf CX0 P w K mg base N qual (defScope st) f cdv A outer sh H E).nox E0 (defBody st) s) :
    FnOk P w K mg base CX0 (k + 1) f fd ps (spM K mg (dBody ps.length N.length s)) :=
  F.ok hS (fun vs H Q E h => spM_len h) fun cdv A outer sh H vs Q E hr h => body_ok rfl rfl (hb cdv A outer sh H E hr) hN h
theorem fn_eq {f' g : List W → M W} (F : FnOk P w K mg base CX0 k f fd ps (spM K mg f')) (h : ∀ ws st, (f' ws st).nox = (g ws st).nox) : FnOk P w K mg base CX0 k f fd ps (spM K mg g) :=
  F.imp fun vs H Q E ⟨F, G, m, ws, st, S, r, P⟩ => ⟨F, G, m, ws, st, S, r, by rw [h]; exact P⟩
end

/-! ### calls -/
def dCall (f : List W → M W) (ds : Env → M (List W)) : Env → M W := fun env st => (ds env st).bind fun ws st => (f ws st).nox
def dCallB (f : List W → M W) (ds : Env → M (List W)) : Env → M W := fun env st => (ds env st).bind f
def dCallF (f : List W → M (List W)) (ds : Env → M (List W)) : Env → M (List W) := fun env st => (ds env st).bind f
section
variable {X : Cx} {E : XK} {a b e c o : Expr} {es : List Expr} {da db d dO : Env → M W} {ds : Env → M (List W)} {p pos apos cpos : Pos} {k : Nat} {f : Addr} {fd : FuncData} {ps : List Str} {x : Str} {df : List W → M W}
theorem je_call (F : FnOk X.prog X.w X.K X.mg X.base CX0 k f fd ps (spM X.K X.mg df)) (hr : Room k X.A) (hg : Gl X x) (hm : X.mg x = some (.ref f)) (hk : PySem.W.keepIn X.K (.ref f) = true) (hb : Binds X.K fd ps [])
    (ha : JA X E (e :: es) ds) (hdb : (x == ("__debug__" : Str)) = false := by decide) (he : starEach (e :: es) X.env = (false, eval e X.env) :: starEach es X.env := by rfl) (hpl : (backTo pos (starEach es X.env)).any (·.1) = false := by rfl) :
    JE X E (.Call (.Name x p) (e :: es) [] pos) (dCall df ds) := by
  refine weakE (pe_call F hr hg hm hk hb .nil (E := E0) pass0 ha hdb he hpl) ?_
  rintro σ H Q ⟨F, G, m, env, st, S, R, P⟩
  refine ⟨F, G, m, env, st, S, R, (P.bind (R := RA)).imp fun vs H1 ⟨G1, m1, ws, st1, e1, S1, r1, P1⟩ => ?_⟩
  rw [List.append_nil]
  exact ⟨F, G1, m1, ws, st1, S1, r1, P1.nox⟩
theorem je_call0 (F : FnOk X.prog X.w X.K X.mg X.base CX0 k f fd ps (spM X.K X.mg df)) (hr : Room k X.A) (hg : Gl X x) (hm : X.mg x = some (.ref f)) (hk : PySem.W.keepIn X.K (.ref f) = true) (hb : Binds X.K fd ps [])
    (hdb : (x == ("__debug__" : Str)) = false := by decide) : JE X E (.Call (.Name x p) [] [] pos) (dCall df dNil) := by
  refine weakE (pe_call0 F hr hg hm hk hb .nil (E := E0) pass0 hdb) ?_
  rintro σ H Q ⟨F, G, m, env, st, S, R, P⟩
  exact ⟨F, G, m, [], st, S, .nil, Post.nox P⟩
theorem je_callB {id : String} {r : List V → Hp → VK → Prop} {g : List W → M W} (hc : CallR X (.builtin id) r) (hf : CallOk X.K X.mg E r g) (hg : Gl X x) (hm : X.mg x = none) (hv : bootBuiltins x = some (.builtin id)) (ha : JA X E (e :: es) ds)
    (hn : x ≠ "__name__" := by decide) (hdb : (x == ("__debug__" : Str)) = false := by decide) (he : starEach (e :: es) X.env = (false, eval e X.env) :: starEach es X.env := by rfl) (hpl : (backTo pos (starEach es X.env)).any (·.1) = false := by rfl) :
    JE X E (.Call (.Name x p) (e :: es) [] pos) (dCallB g ds) := by
  refine weakE (pe_callB hc hg hm hv ha hn hdb he hpl) ?_
  rintro σ H Q ⟨F, G, m, env, st, S, R, P⟩
  exact ⟨F, G, m, env, st, S, R, (P.bind (R := RA)).imp fun vs H1 ⟨G1, m1, ws, st1, e1, S1, r1, P1⟩ => hf F G1 m1 st1 H1 ws vs Q S1 r1 P1⟩
theorem je_callT {id : String} {r : List V → Hp → VK → Prop} {g : List W → M W} (hc : CallR X (.type id) r) (hf : CallOk X.K X.mg E r g) (hg : Gl X x) (hm : X.mg x = none) (hv : bootBuiltins x = some (.type id)) (ha : JA X E (e :: es) ds)
    (hn : x ≠ "__name__" := by decide) (hdb : (x == ("__debug__" : Str)) = false := by decide) (he : starEach (e :: es) X.env = (false, eval e X.env) :: starEach es X.env := by rfl) (hpl : (backTo pos (starEach es X.env)).any (·.1) = false := by rfl) :
    JE X E (.Call (.Name x p) (e :: es) [] pos) (dCallB g ds) := by
  refine weakE (pe_callTy hc hg hm hv ha hn hdb he hpl) ?_
  rintro σ H Q ⟨F, G, m, env, st, S, R, P⟩
  exact ⟨F, G, m, env, st, S, R, (P.bind (R := RA)).imp fun vs H1 ⟨G1, m1, ws, st1, e1, S1, r1, P1⟩ => hf F G1 m1 st1 H1 ws vs Q S1 r1 P1⟩
theorem jf_callB {id : String} {r : List V → Hp → VK → Prop} {g : List W → M (List W)} (hc : CallR X (.builtin id) r) (hf : CallOkF X.K X.mg E r g) (hg : Gl X x) (hm : X.mg x = none) (hv : bootBuiltins x = some (.builtin id)) (ha : JA X E (e :: es) ds)
    (hn : x ≠ "__name__" := by decide) (hdb : (x == ("__debug__" : Str)) = false := by decide) (he : starEach (e :: es) X.env = (false, eval e X.env) :: starEach es X.env := by rfl) (hpl : (backTo pos (starEach es X.env)).any (·.1) = false := by rfl) :
    JF X E (.Call (.Name x p) (e :: es) [] pos) (dCallF g ds) := by
  refine weakE (pe_callB hc hg hm hv ha hn hdb he hpl) ?_
  rintro σ H Q ⟨F, G, m, env, st, S, R, P⟩
  exact ⟨F, G, m, env, st, S, R, (PostF.bind (R := RA) P).imp fun vs H1 ⟨G1, m1, ws, st1, e1, S1, r1, P1⟩ => hf F G1 m1 st1 H1 ws vs Q S1 r1 P1⟩
theorem jf_callT {id : String} {r : List V → Hp → VK → Prop} {g : List W → M (List W)} (hc : CallR X (.type id) r) (hf : CallOkF X.K X.mg E r g) (hg : Gl X x) (hm : X.mg x = none) (hv : bootBuiltins x = some (.type id)) (ha : JA X E (e :: es) ds)
    (hn : x ≠ "__name__" := by decide) (hdb : (x == ("__debug__" : Str)) = false := by decide) (he : starEach (e :: es) X.env = (false, eval e X.env) :: starEach es X.env := by rfl) (hpl : (backTo pos (starEach es X.env)).any (·.1) = false := by rfl) :
    JF X E (.Call (.Name x p) (e :: es) [] pos) (dCallF g ds) := by
  refine weakE (pe_callTy hc hg hm hv ha hn hdb he hpl) ?_
  rintro σ H Q ⟨F, G, m, env, st, S, R, P⟩
  exact ⟨F, G, m, env, st, S, R, (PostF.bind (R := RA) P).imp fun vs H1 ⟨G1, m1, ws, st1, e1, S1, r1, P1⟩ => hf F G1 m1 st1 H1 ws vs Q S1 r1 P1⟩

/-! ### built-in functions by value -/
def cLen : List W → M W := fun ws st => match ws with
  | [.str x] => if x.length ≤ sizeLine then .ok (.int x.length) st else .stuck
  | [w] => match sview w st with
    | some xs => .ok (.int xs.length) st
    | none => .stuck
  | _ => .stuck
def cAbs : List W → M W := fun ws st => match ws with
  | [.int i] => .ok (.int (if i < 0 then -i else i)) st
  | _ => .stuck
def cInt : List W → M W := fun ws st => match ws with
  | [.int i] => .ok (.int i) st
  | [.bl b] => .ok (.int (if b then 1 else 0)) st
  | _ => .stuck
def cMin2 : List W → M W := fun ws st => match ws with
  | [.int i, .int j] => .ok (.int (if j < i then j else i)) st
  | _ => .stuck
def cMax2 : List W → M W := fun ws st => match ws with
  | [.int i, .int j] => .ok (.int (if j > i then j else i)) st
  | _ => .stuck
def cList : List W → M (List W) := fun ws st => match ws with
  | [w] => match sview w st with
    | some xs => .ok xs st
    | none => .stuck
  | _ => .stuck
section
variable {K : PySem.W.Frag} {mg : MG}
theorem ok_len : CallOk K mg E (fun xs H Q => (∃ p ys, xs = [.ref p] ∧ (SqL K H p ys ∨ SqT K H p ys) ∧ Q (.int ys.length) H) ∨ (∃ z, xs = [.str z] ∧ z.length ≤ sizeLine ∧ Q (.int z.length) H)) cLen := by
  intro F G m st H ws vs Q S r P
  unfold cLen at P
  split at P
  · cases r with
    | cons h r =>
      cases r
      cases h
      split at P
      · exact .inr ⟨_, rfl, by assumption, P.ret S (.int _)⟩
      · exact P.elim
  · cases r with
    | cons h r =>
      cases r
      split at P
      · rename_i xs q
        obtain ⟨a, vs, rfl, h1, h2⟩ := sview_at S h q
        rw [h2.length] at P
        exact .inl ⟨a, vs, rfl, h1, P.ret S (.int _)⟩
      · exact P.elim
  · exact P.elim
theorem ok_abs : CallOk K mg E (fun xs H Q => ∃ i, xs = [.int i] ∧ Q (.int (if i < 0 then -i else i)) H) cAbs := by
  intro F G m st H ws vs Q S r P
  unfold cAbs at P
  split at P
  · cases r with
    | cons h r =>
      cases r
      cases h
      exact ⟨_, rfl, P.ret S (.int _)⟩
  · exact P.elim
theorem ok_int : CallOk K mg E (fun xs H Q => (∃ i, xs = [.int i] ∧ Q (.int i) H) ∨ ∃ k, xs = [.bl k] ∧ Q (.int (if k then 1 else 0)) H) cInt := by
  intro F G m st H ws vs Q S r P
  unfold cInt at P
  split at P
  · cases r with
    | cons h r =>
      cases r
      cases h
      exact .inl ⟨_, rfl, P.ret S (.int _)⟩
  · cases r with
    | cons h r =>
      cases r
      cases h
      exact .inr ⟨_, rfl, P.ret S (.int _)⟩
  · exact P.elim
theorem ok_min2 : CallOk K mg E (fun xs H Q => ∃ i j, xs = [.int i, .int j] ∧ Q (.int (if j < i then j else i)) H) cMin2 := by
  intro F G m st H ws vs Q S r P
  unfold cMin2 at P
  split at P
  · cases r with
    | cons h r =>
      cases r with
      | cons h2 r =>
        cases r
        cases h
        cases h2
        exact ⟨_, _, rfl, P.ret S (.int _)⟩
  · exact P.elim
theorem ok_max2 : CallOk K mg E (fun xs H Q => ∃ i j, xs = [.int i, .int j] ∧ Q (.int (if j > i then j else i)) H) cMax2 := by
  intro F G m st H ws vs Q S r P
  unfold cMax2 at P
  split at P
  · cases r with
    | cons h r =>
      cases r with
      | cons h2 r =>
        cases r
        cases h
        cases h2
        exact ⟨_, _, rfl, P.ret S (.int _)⟩
  · exact P.elim
theorem ok_list : CallOkF K mg E (fun xs H Q => ∃ p ys, xs = [.ref p] ∧ (SqL K H p ys ∨ SqT K H p ys) ∧ ∀ l, H l = none → Q (.ref l) (upd H l (.lst ys))) cList := by
  intro F G m st H ws vs Q S r P
  unfold cList at P
  split at P
  · cases r with
    | cons h r =>
      cases r
      split at P
      · rename_i xs q
        obtain ⟨a, vs, rfl, h1, h2⟩ := sview_at S h q
        exact ⟨a, vs, rfl, h1, fun l hl => P.ret S hl h2⟩
      · exact P.elim
  · exact P.elim
end
theorem je_len (hg : Gl X "len") (hm : X.mg "len" = none) (ha : JA X E (e :: es) ds) (he : starEach (e :: es) X.env = (false, eval e X.env) :: starEach es X.env := by rfl) (hpl : (backTo pos (starEach es X.env)).any (·.1) = false := by rfl) :
    JE X E (.Call (.Name "len" p) (e :: es) [] pos) (dCallB cLen ds) := je_callB (call_len_seq.or call_len_str) ok_len hg hm PySem.boot_len ha (by decide) (by decide) he hpl
theorem je_abs (hg : Gl X "abs") (hm : X.mg "abs" = none) (ha : JA X E (e :: es) ds) (he : starEach (e :: es) X.env = (false, eval e X.env) :: starEach es X.env := by rfl) (hpl : (backTo pos (starEach es X.env)).any (·.1) = false := by rfl) :
    JE X E (.Call (.Name "abs" p) (e :: es) [] pos) (dCallB cAbs ds) := je_callB call_abs ok_abs hg hm (by decide +kernel) ha (by decide) (by decide) he hpl
theorem je_int1 (hg : Gl X "int") (hm : X.mg "int" = none) (ha : JA X E (e :: es) ds) (he : starEach (e :: es) X.env = (false, eval e X.env) :: starEach es X.env := by rfl) (hpl : (backTo pos (starEach es X.env)).any (·.1) = false := by rfl) :
    JE X E (.Call (.Name "int" p) (e :: es) [] pos) (dCallB cInt ds) := je_callT call_int1 ok_int hg hm (by decide +kernel) ha (by decide) (by decide) he hpl
theorem je_min2 (hc : X.calm = true) (hg : Gl X "min") (hm : X.mg "min" = none) (ha : JA X E (e :: es) ds) (he : starEach (e :: es) X.env = (false, eval e X.env) :: starEach es X.env := by rfl) (hpl : (backTo pos (starEach es X.env)).any (·.1) = false := by rfl) :
    JE X E (.Call (.Name "min" p) (e :: es) [] pos) (dCallB cMin2 ds) := je_callB (call_min2 hc) ok_min2 hg hm (by decide +kernel) ha (by decide) (by decide) he hpl
theorem je_max2 (hc : X.calm = true) (hg : Gl X "max") (hm : X.mg "max" = none) (ha : JA X E (e :: es) ds) (he : starEach (e :: es) X.env = (false, eval e X.env) :: starEach es X.env := by rfl) (hpl : (backTo pos (starEach es X.env)).any (·.1) = false := by rfl) :
    JE X E (.Call (.Name "max" p) (e :: es) [] pos) (dCallB cMax2 ds) := je_callB (call_max2 hc) ok_max2 hg hm (by decide +kernel) ha (by decide) (by decide) he hpl
theorem jf_list (hg : Gl X "list") (hm : X.mg "list" = none) (ha : JA X E (e :: es) ds) (he : starEach (e :: es) X.env = (false, eval e X.env) :: starEach es X.env := by rfl) (hpl : (backTo pos (starEach es X.env)).any (·.1) = false := by rfl) :
    JF X E (.Call (.Name "list" p) (e :: es) [] pos) (dCallF cList ds) := jf_callT call_list_of ok_list hg hm (by decide +kernel) ha (by decide) (by decide) he hpl

/-! ### ranges -/
def sm (i : Int) : Prop := -(2 ^ 62) ≤ i ∧ i < 2 ^ 62
instance (i : Int) : Decidable (sm i) := by unfold sm; exact inferInstance
def iR1 (ds : Env → M (List W)) : Env → M It' := fun env st => (ds env st).bind fun ws st => match ws with
  | [.int n] => if sm n then .ok ⟨rngW 0 n.toNat, fun _ => True⟩ st else .stuck
  | _ => .stuck
def iR2 (ds : Env → M (List W)) : Env → M It' := fun env st => (ds env st).bind fun ws st => match ws with
  | [.int a, .int b] => if sm a ∧ sm b then .ok ⟨rngW a (b - a).toNat, fun _ => True⟩ st else .stuck
  | _ => .stuck
theorem ji_range1 {tg : Expr} (hg : Gl X "range") (hm : X.mg "range" = none) (ha : JA X E [a] ds) (hs : starEach [a] X.env = [(false, eval a X.env)] := by rfl) : JI X E tg (.Call (.Name "range" p) [a] [] pos) (iR1 ds) := by
  refine weakI (pi_range1 hg hm ha hs) ?_
  rintro σ H Q ⟨F, G, m, env, st, S, R, P⟩
  refine ⟨F, G, m, env, st, S, R, (P.bind (R := RA)).imp fun vs H1 ⟨G1, m1, ws, st1, e1, S1, r1, P1⟩ => ?_⟩
  split at P1
  · split at P1
    · rename_i hs
      cases r1 with
      | cons r1 r2 =>
        cases r2
        cases r1
        exact ⟨_, rfl, hs.1, hs.2, P1.ret S1 walks_range⟩
    · exact P1.elim
  · exact P1.elim
theorem ji_range2 {tg : Expr} (hg : Gl X "range") (hm : X.mg "range" = none) (ha : JA X E [a, b] ds) (hs : starEach [a, b] X.env = [(false, eval a X.env), (false, eval b X.env)] := by rfl) (hs2 : starEach [b] X.env = [(false, eval b X.env)] := by rfl) :
    JI X E tg (.Call (.Name "range" p) [a, b] [] pos) (iR2 ds) := by
  refine weakI (pi_range2 hg hm ha hs hs2) ?_
  rintro σ H Q ⟨F, G, m, env, st, S, R, P⟩
  refine ⟨F, G, m, env, st, S, R, (P.bind (R := RA)).imp fun vs H1 ⟨G1, m1, ws, st1, e1, S1, r1, P1⟩ => ?_⟩
  split at P1
  · split at P1
    · rename_i hs
      cases r1 with
      | cons r1 r2 =>
        cases r2 with
        | cons r2 r3 =>
          cases r3
          cases r1
          cases r2
          exact ⟨_, _, rfl, ⟨hs.1.1, hs.1.2, hs.2.1, hs.2.2⟩, P1.ret S1 walks_range⟩
    · exact P1.elim
  · exact P1.elim
/-- list(range(n)) -/
def dListR (d : Env → M W) : Env → M (List W) := fun env st => (d env st).bind fun w st => match w with
  | .int n => if sm n ∧ n.toNat ≤ 2 ^ 24 then .ok (rngW 0 n.toNat) st else .stuck
  | _ => .stuck
theorem rngW_at {K : PySem.W.Frag} {G : Hp} {m : List Addr} {lo : Int} {n : Nat} : RWs K G m (rngW lo n) ((List.range n).map fun (i : Nat) => V.int (lo + (i : Int))) := by
  unfold rngW
  generalize List.range n = l
  induction l with
  | nil => exact .nil
  | cons x l ih => exact .cons (.int _) ih
theorem jf_listR (hc : X.calm = true) (hg : Gl X "list") (hm : X.mg "list" = none) (hg2 : Gl X "range") (hm2 : X.mg "range" = none) (ha : JE X E a da) (na : starEach [a] X.env = (false, eval a X.env) :: starEach [] X.env := by rfl)
    (n2 : starEach [.Call (.Name "range" p) [a] [] pos] X.env = (false, eval (.Call (.Name "range" p) [a] [] pos) X.env) :: starEach [] X.env := by rfl) : JF X E (.Call (.Name "list" cpos) [.Call (.Name "range" p) [a] [] pos] [] apos) (dListR da) := by
  refine weakE (pe_listRg hc hg hm (prg_1 hg2 hm2 ha na) n2) ?_
  rintro σ H Q ⟨F, G, m, env, st, S, R, P⟩
  refine ⟨F, G, m, env, st, S, R, (PostF.bind (R := RW) P).imp fun v H1 ⟨G1, m1, w, st1, e1, S1, r1, P1⟩ => ?_⟩
  split at P1
  · split at P1
    · rename_i n hn
      cases r1
      refine ⟨n, rfl, ⟨by omega, by omega, hn.1.1, hn.1.2, ?_⟩, fun q hq => ?_⟩
      · rw [Int.sub_zero]
        exact hn.2
      · unfold rgV
        rw [Int.sub_zero]
        exact P1.ret S1 hq rngW_at
    · exact P1.elim
  · exact P1.elim

/-! ### methods of built-in types -/
def MtOk (K : PySem.W.Frag) (mg : MG) (E : XK) (r : V → List V → Hp → VK → Prop) (f : W → List W → M W) : Prop :=
  ∀ F G m st H x v ws vs Q, Sim K mg F G m st H → RW K G m x v → RWs K G m ws vs → Post RW K mg E F G m (f x ws st) Q → r v vs H Q
/-- the receiver is of that type -/
def TyOk (T : String) (ty : W → Store → Bool) : Prop := ∀ (K : PySem.W.Frag) mg F G m st H x v, Sim K mg F G m st H → RW K G m x v → ty x st = true → tyV K T v H
def dBM (ty : W → Store → Bool) (f : W → List W → M W) (o : Env → M W) (ds : Env → M (List W)) : Env → M W := fun env st => (o env st).bind fun x st => if ty x st = true then (ds env st).bind fun ws st => f x ws st else .stuck
def tyL (x : W) (st : Store) : Bool := (lview x st).isSome
theorem tyL_ok : TyOk "list" tyL := by
  intro K mg F G m st H x v S r h
  unfold tyL at h
  cases q : lview x st with
  | none => rw [q] at h; cases h
  | some xs =>
    obtain ⟨a, vs, rfl, h1, h2⟩ := lview_at S r q
    exact .inl ⟨rfl, _, h1⟩
theorem je_bm {name : Str} {T id : String} {r : V → List V → Hp → VK → Prop} {ty : W → Store → Bool} {g : W → List W → M W} (pa : PlainAttrs T) (slot : Slot T name id) (hty : typeOf (.builtin id) = pure (.type "method_descriptor")) (hm : MtR X id r) (ht : TyOk T ty) (hf : MtOk X.K X.mg E r g)
    (ho : JE X E o dO) (ha : JA X E (e :: es) ds) (hbase : attributeBase o name X.env (eval o X.env) = eval o X.env := by rfl)
    (hfew : ((backTo cpos (starEach (e :: es) X.env)).all (fun x => !x.1) && (backToKw cpos (keywordEach [] X.env)).all (fun x => x.1.isSome)
      && decide ((e :: es).length + ([] : List Keyword).length + (if ([] : List Keyword).isEmpty then 0 else 1) < 30)) = true := by rfl)
    (hline : (apos.endLine == cpos.line) = true := by rfl) (hs : starEach (e :: es) X.env = (false, eval e X.env) :: starEach es X.env := by rfl) (hplain : (backTo cpos (starEach es X.env)).any (·.1) = false := by rfl) :
    JE X E (.Call (.Attribute o name apos) (e :: es) [] cpos) (dBM ty g dO ds) := by
  refine weakE (pe_bm pa slot hty hm ho ha hbase hfew hline hs hplain) ?_
  rintro σ H Q ⟨F, G, m, env, st, S, R, P⟩
  refine ⟨F, G, m, env, st, S, R, (P.bind (R := RW)).imp fun v H1 ⟨G1, m1, w, st1, e1, S1, r1, P1⟩ => ?_⟩
  split at P1
  · rename_i hty
    refine ⟨ht X.K X.mg F G1 m1 st1 H1 w v S1 r1 hty, F, G1, m1, env, st1, S1, R.mono e1, (P1.bind (R := RA)).imp fun vs H2 ⟨G2, m2, ws, st2, e2, S2, r2, P2⟩ => ?_⟩
    exact hf F G2 m2 st2 H2 w v ws vs Q S2 (RW.mono e2 r1) r2 P2
  · exact P1.elim
def dBM0 (ty : W → Store → Bool) (f : W → List W → M W) (o : Env → M W) : Env → M W := fun env st => (o env st).bind fun x st => if ty x st = true then f x [] st else .stuck
theorem je_bm0 {name : Str} {T id : String} {r : V → List V → Hp → VK → Prop} {ty : W → Store → Bool} {g : W → List W → M W} (pa : PlainAttrs T) (slot : Slot T name id) (hty : typeOf (.builtin id) = pure (.type "method_descriptor")) (hm : MtR X id r) (ht : TyOk T ty) (hf : MtOk X.K X.mg E r g)
    (ho : JE X E o dO) (hbase : attributeBase o name X.env (eval o X.env) = eval o X.env := by rfl) (hline : (apos.endLine == cpos.line) = true := by rfl) :
    JE X E (.Call (.Attribute o name apos) [] [] cpos) (dBM0 ty g dO) := by
  refine weakE (pe_bm0 pa slot hty hm ho hbase hline) ?_
  rintro σ H Q ⟨F, G, m, env, st, S, R, P⟩
  refine ⟨F, G, m, env, st, S, R, (P.bind (R := RW)).imp fun v H1 ⟨G1, m1, w, st1, e1, S1, r1, P1⟩ => ?_⟩
  split at P1
  · rename_i hty
    exact ⟨ht X.K X.mg F G1 m1 st1 H1 w v S1 r1 hty, hf F G1 m1 st1 H1 w v [] [] Q S1 r1 .nil P1⟩
  · exact P1.elim
def mAppend : W → List W → M W := fun x ws st => match x, ws with
  | .cell n, [w] => match lcell st n with
    | some xs => if xs.length < sizeLine then .ok .non (st.set n (.lst (xs ++ [w]))) else .stuck
    | none => .stuck
  | _, _ => .stuck
def mPopAt : W → List W → M W := fun x ws st => match x, ws with
  | .cell n, [.int i] => match lcell st n with
    | some xs => if -(2 ^ 63) ≤ i ∧ i < 2 ^ 63 then (match seqIndex? i xs.length with
      | some k => match xs[k]? with
        | some w => .ok w (st.set n (.lst (xs.eraseIdx k)))
        | none => .stuck
      | none => .stuck) else .stuck
    | none => .stuck
  | _, _ => .stuck
def mPop : W → List W → M W := fun x ws st => match x, ws with
  | .cell n, [] => match lcell st n with
    | some xs => match xs[xs.length - 1]? with
      | some w => .ok w (st.set n (.lst xs.dropLast))
      | none => .stuck
    | none => .stuck
  | _, _ => .stuck
section
variable {K : PySem.W.Frag} {mg : MG}
theorem cell_at {F G : Hp} {m : List Addr} {st : Store} {H : Hp} {n : Nat} {v : V} {xs : List W} (S : Sim K mg F G m st H) (r : RW K G m (.cell n) v) (q : lcell st n = some xs) : ∃ a vs, v = .ref a ∧ m[n]? = some a ∧ H a = some (.lst vs) ∧ RWs K G m xs vs ∧
    ∀ ys us G' m', Ext G m G' m' → RWs K G m ys us → Sim K mg F G m (st.set n (.lst ys)) (upd H a (.lst us)) := by
  cases r with
  | @cell _ a hm =>
    have q' := lcell_some q
    obtain ⟨g0, vs, h2, h3⟩ := S.ok n _ a q' hm
    exact ⟨a, vs, rfl, hm, h2, h3, fun ys us G' m' _ r => S.set q' True.intro hm ⟨g0, us, upd_same, r⟩⟩
theorem ok_append : MtOk K mg E rAppend mAppend := by
  intro F G m st H x v ws vs Q S r rs P
  unfold mAppend at P
  split at P
  · rename_i n w
    split at P
    · rename_i xs q
      split at P
      · rename_i z
        obtain ⟨a, us, rfl, hm, h1, h2, h3⟩ := cell_at S r q
        cases rs with
        | cons r1 rs =>
          cases rs
          refine ⟨a, us, _, rfl, rfl, h1, by rw [← h2.length]; exact z, ?_⟩
          exact P.ret (h3 _ _ G m (Ext.refl G m) (h2.append (.cons r1 .nil))) .non
      · exact P.elim
    · exact P.elim
  · exact P.elim
theorem ok_popAt : MtOk K mg E rPopAt mPopAt := by
  intro F G m st H x v ws vs Q S r rs P
  unfold mPopAt at P
  split at P
  · rename_i n i
    split at P
    · rename_i xs q
      split at P
      · rename_i z
        split at P
        · rename_i k hk
          split at P
          · rename_i w hw
            obtain ⟨a, us, rfl, hm, h1, h2, h3⟩ := cell_at S r q
            cases rs with
            | cons r1 rs =>
              cases rs
              cases r1
              obtain ⟨y, hy, ry⟩ := h2.get hw
              refine ⟨a, us, i, k, y, rfl, rfl, h1, z.1, z.2, by rw [← h2.length]; exact hk, hy, ?_⟩
              exact P.ret (h3 _ _ G m (Ext.refl G m) (h2.eraseIdx k)) ry
          · exact P.elim
        · exact P.elim
      · exact P.elim
    · exact P.elim
  · exact P.elim
theorem ok_pop : MtOk K mg E rPop mPop := by
  intro F G m st H x v ws vs Q S r rs P
  unfold mPop at P
  split at P
  · rename_i n
    split at P
    · rename_i xs q
      split at P
      · rename_i w hw
        obtain ⟨a, us, rfl, hm, h1, h2, h3⟩ := cell_at S r q
        cases rs
        obtain ⟨y, hy, ry⟩ := h2.get hw
        refine ⟨a, us, y, rfl, rfl, h1, by rw [← h2.length]; exact hy, ?_⟩
        exact P.ret (h3 _ _ G m (Ext.refl G m) h2.dropLast) ry
      · exact P.elim
    · exact P.elim
  · exact P.elim
end

/-! ### slices -/
def RO : Rel (Option Int) (Option Int) := fun _ _ _ a b => b = a
def tO (K : PySem.W.Frag) (mg : MG) (E : XK) (d : Env → M (Option Int)) : TO := fun σ H Q => ∃ F G m env st, Sim K mg F G m st H ∧ REnv K G m env σ ∧ Post RO K mg E F G m (d env st) Q
abbrev JO (X : Cx) (E : XK) (e : Option Expr) (d : Env → M (Option Int)) : Prop := PO X e (tO X.K X.mg E d)
theorem weakO {e : Option Expr} {t t' : TO} (h : PO X e t) (w : ∀ σ H Q, t' σ H Q → t σ H Q) : PO X e t' := ⟨fun pins s σ H Q I q => h.run pins s σ H Q I (w σ H Q q)⟩
def oNone : Env → M (Option Int) := fun _ st => .ok none st
def oSome (d : Env → M W) : Env → M (Option Int) := fun env st => (d env st).bind fun w st => match w with
  | .int i => .ok (some i) st
  | _ => .stuck
theorem jo_none : JO X E none oNone := by
  refine weakO po_none ?_
  rintro σ H Q ⟨F, G, m, env, st, S, R, P⟩
  exact P.ret S rfl
theorem jo_some (h : JE X E e d) : JO X E (some e) (oSome d) := by
  refine weakO (po_some h) ?_
  rintro σ H Q ⟨F, G, m, env, st, S, R, P⟩
  refine ⟨F, G, m, env, st, S, R, (P.bind (R := RW)).imp fun v H1 ⟨G1, m1, w, st1, e1, S1, r1, P1⟩ => ?_⟩
  split at P1
  · cases r1
    exact ⟨_, rfl, P1.ret S1 rfl⟩
  · exact P1.elim
def cutW (xs : List W) (lo hi : Option Int) : List W := (xs.drop (HT.sIx xs.length 0 lo)).take (HT.sIx xs.length xs.length hi - HT.sIx xs.length 0 lo)
def dSl (d : Env → M W) (dl dh : Env → M (Option Int)) : Env → M (List W) := fun env st => (d env st).bind fun w st => (dl env st).bind fun lo st => (dh env st).bind fun hi st => match lview w st with
  | some xs => .ok (cutW xs lo hi) st
  | none => .stuck
theorem jf_slice {lo hi : Option Expr} {dl dh : Env → M (Option Int)} {p2 : Pos} (he : JE X E e d) (hl : JO X E lo dl) (hu : JO X E hi dh) : JF X E (.Subscript e (.Slice lo hi none p2) pos) (dSl d dl dh) := by
  refine weakE (pe_slice sl_list he hl hu) ?_
  rintro σ H Q ⟨F, G, m, env, st, S, R, P⟩
  refine ⟨F, G, m, env, st, S, R, (PostF.bind (R := RW) P).imp fun v H1 ⟨G1, m1, w, st1, e1, S1, r1, P1⟩ => ?_⟩
  refine ⟨F, G1, m1, env, st1, S1, R.mono e1, (PostF.bind (R := RO) P1).imp fun lo' H2 ⟨G2, m2, lo, st2, e2, S2, r2, P2⟩ => ?_⟩
  refine ⟨F, G2, m2, env, st2, S2, (R.mono e1).mono e2, (PostF.bind (R := RO) P2).imp fun hi' H3 ⟨G3, m3, hi, st3, e3, S3, r3, P3⟩ => ?_⟩
  cases r2
  cases r3
  split at P3
  · rename_i xs q
    obtain ⟨a, vs, rfl, h1, h2⟩ := lview_at S3 (RW.mono e3 (RW.mono e2 r1)) q
    refine ⟨a, vs, rfl, h1, fun p hp => P3.ret S3 hp ?_⟩
    unfold cutV cutW
    rw [h2.length]
    exact (h2.drop _).take _
  · exact P3.elim
def dRev (d : Env → M W) : Env → M (List W) := fun env st => (d env st).bind fun w st => match lview w st with
  | some xs => .ok xs.reverse st
  | none => .stuck
theorem jf_rev {k : Nat} {p1 p2 p3 : Pos} (he : JE X E e d) : JF X E (.Subscript e (.Slice none none (some (.UnaryOp .USub (.Constant (.int 1) k p1) p2)) p3) pos) (dRev d) := by
  refine weakE (pe_revL he) ?_
  rintro σ H Q ⟨F, G, m, env, st, S, R, P⟩
  refine ⟨F, G, m, env, st, S, R, (PostF.bind (R := RW) P).imp fun v H1 ⟨G1, m1, w, st1, e1, S1, r1, P1⟩ => ?_⟩
  split at P1
  · rename_i xs q
    obtain ⟨a, vs, rfl, h1, h2⟩ := lview_at S1 r1 q
    exact ⟨a, vs, rfl, h1, fun p hp => P1.ret S1 hp h2.reverse⟩
  · exact P1.elim

/-! ### in -/
def flatW : W → Bool
  | .non => true
  | .bl _ => true
  | .int _ => true
  | .str _ => true
  | _ => false
def eqW : W → W → Bool
  | .non, .non => true
  | .bl a, .bl b => a == b
  | .bl a, .int b => (if a then 1 else 0) == b
  | .int a, .bl b => a == (if b then 1 else 0)
  | .int a, .int b => a == b
  | .str a, .str b => a == b
  | _, _ => false
def inW (x : W) (xs : List W) : Bool := xs.any fun y => eqW y x
section
variable {K : PySem.W.Frag} {mg : MG} {G : Hp} {m : List Addr}
theorem flat_of {x : W} {v : V} (r : RW K G m x v) (h : flatW x = true) : flatV v = true := by
  cases r <;> first | rfl | cases h
theorem eq_of {x y : W} {v u : V} (r : RW K G m x v) (q : RW K G m y u) (h : flatW x = true) (h2 : flatW y = true) : eqV v u = eqW x y := by
  cases r <;> first | (exact absurd h Bool.false_ne_true) | skip
  all_goals (cases q <;> first | rfl | (exact absurd h2 Bool.false_ne_true))
theorem flats_of : ∀ {xs : List W} {vs : List V}, RWs K G m xs vs → xs.all flatW = true → vs.all flatV = true
  | _, _, .nil, _ => rfl
  | _, _, .cons r rs, h => by
    rw [List.all_cons, Bool.and_eq_true] at h ⊢
    exact ⟨flat_of r h.1, flats_of rs h.2⟩
theorem in_of {x : W} {v : V} (r : RW K G m x v) (h : flatW x = true) : ∀ {xs : List W} {vs : List V}, RWs K G m xs vs → xs.all flatW = true → inV v vs = inW x xs
  | _, _, .nil, _ => rfl
  | _, _, .cons q qs, h2 => by
    rw [List.all_cons, Bool.and_eq_true] at h2
    have ih := in_of r h qs h2.2
    unfold inV at ih ⊢
    unfold inW at ih ⊢
    rw [List.any_cons, List.any_cons, ih, eq_of q r h2.1 h]
def oIn (neg : Bool) : W → W → M W := fun x y st => match sview y st with
  | some xs => if flatW x = true ∧ xs.all flatW = true then .ok (.bl (if neg then !inW x xs else inW x xs)) st else .stuck
  | none => .stuck
theorem ok_in {neg : Bool} : OpOk K mg E (rIn K neg) (oIn neg) := by
  intro F G m st H x y v u Q S r1 r2 P
  unfold oIn at P
  split at P
  · rename_i xs q
    split at P
    · rename_i z
      obtain ⟨a, vs, rfl, h1, h2⟩ := sview_at S r2 q
      refine ⟨a, vs, rfl, h1, flat_of r1 z.1, flats_of h2 z.2, ?_⟩
      rw [in_of r1 z.1 h2 z.2]
      exact P.ret S (.bl _)
    · exact P.elim
  · exact P.elim
/-- the first place -/
def findW (x : W) : List W → Option Nat
  | [] => none
  | y :: ys => if eqW y x = true then some 0 else (findW x ys).map (· + 1)
def mIndex : W → List W → M W := fun x ws st => match ws with
  | [w] => match lview x st with
    | some xs => if flatW w = true ∧ xs.all flatW = true then (match findW w xs with
      | some j => .ok (.int j) st
      | none => .stuck) else .stuck
    | none => .stuck
  | _ => .stuck
theorem findW_at {x : W} : ∀ {xs : List W} {j : Nat}, findW x xs = some j → ∃ z, xs[j]? = some z ∧ eqW z x = true ∧ ∀ (k : Nat) (z' : W), k < j → xs[k]? = some z' → eqW z' x = false
  | [], j, h => by cases h
  | y :: ys, j, h => by
    unfold findW at h
    split at h
    · rename_i e
      cases h
      exact ⟨y, rfl, e, fun k z' hk => absurd hk (Nat.not_lt_zero k)⟩
    · rename_i e
      cases q : findW x ys with
      | none => rw [q] at h; cases h
      | some i =>
        rw [q] at h
        cases h
        obtain ⟨z, h1, h2, h3⟩ := findW_at q
        refine ⟨z, by simpa using h1, h2, fun k z' hk hz => ?_⟩
        cases k with
        | zero =>
          cases hz
          exact Bool.eq_false_iff.mpr e
        | succ k => exact h3 k z' (Nat.lt_of_succ_lt_succ hk) (by simpa using hz)
theorem ok_index : MtOk K mg E (rIndex K) mIndex := by
  intro F G m st H x v ws vs Q S r rs P
  unfold mIndex at P
  split at P
  · rename_i w
    split at P
    · rename_i xs q
      split at P
      · rename_i z
        split at P
        · rename_i j hj
          obtain ⟨a, us, rfl, h1, h2⟩ := lview_at S r q
          cases rs with
          | cons r1 rs =>
            cases rs
            obtain ⟨y, hy, e1, e2⟩ := findW_at hj
            obtain ⟨yv, hyv, ry⟩ := h2.get hy
            have hm := List.all_eq_true.mp z.2
            refine ⟨a, us, _, j, yv, rfl, rfl, h1, flat_of r1 z.1, flats_of h2 z.2, hyv, ?_, fun k zv hk hz => ?_, P.ret S (.int _)⟩
            · rw [eq_of ry r1 (hm y (List.mem_of_getElem? hy)) z.1]
              exact e1
            · obtain ⟨zw, hzw, rz⟩ := h2.get' hz
              rw [eq_of rz r1 (hm zw (List.mem_of_getElem? hzw)) z.1]
              exact e2 k zw hk hzw
        · exact P.elim
      · exact P.elim
    · exact P.elim
  · exact P.elim
end
theorem je_in (ha : JE X E a da) (hb : JE X E b db) (hm : behindInMarks .In b = false := by rfl) : JE X E (.Compare a [.In] [b] pos) (dOp (oIn false) da db) := je_cmp op_in_seq ok_in ha hb hm
theorem je_notIn (ha : JE X E a da) (hb : JE X E b db) (hm : behindInMarks .NotIn b = false := by rfl) : JE X E (.Compare a [.NotIn] [b] pos) (dOp (oIn true) da db) := je_cmp op_notIn_seq ok_in ha hb hm
theorem jt_in (ha : JE X E a da) (hb : JE X E b db) (hm : behindInMarks .In b = false := by rfl) : JT X E (.Compare a [.In] [b] pos) (dB (dOp (oIn false) da db)) := jt_cmp op_in_seq ok_in ha hb hm
theorem jt_notIn (ha : JE X E a da) (hb : JE X E b db) (hm : behindInMarks .NotIn b = false := by rfl) : JT X E (.Compare a [.NotIn] [b] pos) (dB (dOp (oIn true) da db)) := jt_cmp op_notIn_seq ok_in ha hb hm
/-! ### isinstance, one built-in class -/
def isW (T : String) (w : W) (st : Store) : Option Bool := match w with
  | .lst _ => some (T == "list")
  | .tup _ => some (T == "tuple")
  | .cell n => match lcell st n with
    | some _ => some (T == "list")
    | none => none
  | _ => none
def cIs (T : String) : W → M W := fun w st => match isW T w st with
  | some b => .ok (.bl b) st
  | none => .stuck
def dIs (T : String) (d : Env → M W) : Env → M W := fun env st => (d env st).bind (cIs T)
theorem je_is {T : String} {x : Str} {p2 : Pos} (hg : Gl X "isinstance") (hm : X.mg "isinstance" = none) (hg2 : Gl X x) (hm2 : X.mg x = none) (hv : bootBuiltins x = some (.type T)) (ha : JE X E a da)
    (kl : PySem.W.kitOne X.K (.type "list") (.type T) = some (T == "list")) (kt : PySem.W.kitOne X.K (.type "tuple") (.type T) = some (T == "tuple"))
    (he : starEach [a, .Name x p2] X.env = (false, eval a X.env) :: starEach [.Name x p2] X.env := by rfl) (he2 : starEach [.Name x p2] X.env = (false, eval (.Name x p2) X.env) :: starEach [] X.env := by rfl)
    (hpl : (backTo pos (starEach [.Name x p2] X.env)).any (·.1) = false := by rfl) (hn : x ≠ "__name__" := by decide) (hdb : (x == ("__debug__" : Str)) = false := by decide) :
    JE X E (.Call (.Name "isinstance" p) [a, .Name x p2] [] pos) (dIs T da) := by
  refine weakE (pe_callB call_isi hg hm (by decide +kernel) (pa_cons ha (pa_cons (pe_bltn (v := .ty T) hg2 hm2 hv rfl hn hdb) pa_nil he2) he) (by decide) (by decide) he hpl) ?_
  rintro σ H Q ⟨F, G, m, env, st, S, R, P⟩
  refine ⟨F, G, m, env, st, S, R, (P.bind (R := RW)).imp fun v H1 ⟨G1, m1, w, st1, e1, S1, r1, P1⟩ => ?_⟩
  unfold cIs at P1
  split at P1
  · rename_i b q
    refine ⟨v, .ty T, ?_⟩
    unfold isW at q
    split at q
    · cases r1 with
      | lst h1 h2 =>
        cases q
        exact ⟨_, _, _, rfl, .ty T, .base (.lst (S1.ex _ _ h1)), kl, P1.ret S1 (.bl _)⟩
    · cases r1 with
      | tup h1 h2 =>
        cases q
        exact ⟨_, _, _, rfl, .ty T, .base (.tup (S1.ex _ _ h1)), kt, P1.ret S1 (.bl _)⟩
    · split at q
      · rename_i xs q2
        cases q
        obtain ⟨adr, vs, rfl, hm, h1, h2, h3⟩ := cell_at S1 r1 q2
        exact ⟨_, _, _, rfl, .ty T, .base (.lst h1), kl, P1.ret S1 (.bl _)⟩
      · cases q
    · cases q
  · exact P1.elim
end
end Sh


set_option maxRecDepth 100000
set_option maxHeartbeats 2000000
namespace Sh
open PySem L2 Evl
variable [Wd]

/-! ### a cell's list is let go as plain data -/
def fz : W → M W := fun w st => match w with
  | .cell n => match lcell st n with
    | some xs => .ok (.lst xs) (st.set n .dead)
    | none => .stuck
  | w => .ok w st
def dFz (d : Env → M W) : Env → M W := fun env st => (d env st).bind fz
section
variable {X : Cx} {E : XK} {a b e c o : Expr} {es : List Expr} {da db d dO : Env → M W} {ds : Env → M (List W)} {p pos apos cpos : Pos} {x : Str}
theorem fz_read {K : PySem.W.Frag} {mg : MG} {σ : L2.St} {H : Hp} {Q : VK} (h : tE K mg E (dFz d) σ H Q) : tE K mg E d σ H Q := by
  obtain ⟨F, G, m, env, st, S, R, P⟩ := h
  refine ⟨F, G, m, env, st, S, R, (P.bind (R := RW)).imp fun v H1 ⟨G1, m1, w, st1, e1, S1, r1, P1⟩ => ?_⟩
  unfold fz at P1
  split at P1
  · rename_i n
    split at P1
    · rename_i xs q
      obtain ⟨adr, vs, rfl, hm, h1, h2, h3⟩ := cell_at S1 r1 q
      obtain ⟨S2, e2, r2⟩ := S1.freeze (lcell_some q) hm h1 h2
      exact (P1.mono e2).ret S2 r2
    · exact P1.elim
  · exact P1.ret S1 r1
theorem je_fz (h : JE X E e d) : JE X E e (dFz d) := weakE h fun σ H Q => fz_read
theorem pure_read {K : PySem.W.Frag} {mg : MG} {d : Env → M (List W)} {σ : L2.St} {H : Hp} {Q : VK} (h : tE K mg E (dPure d) σ H Q) : tF K mg E d σ H Q := by
  obtain ⟨F, G, m, env, st, S, R, P⟩ := h
  refine ⟨F, G, m, env, st, S, R, ?_⟩
  unfold dPure at P
  cases q : d env st with
  | stuck => rw [q] at P; exact P.elim
  | exc x st1 => rw [q] at P; exact P
  | ok xs st1 =>
    rw [q] at P
    intro G1 m1 p vs H1 e1 S1 hp r1
    have P : Post RW K mg E F G m (.ok (.lst xs) st1) Q := P
    have hg := fresh_back S1.ex hp
    exact (P.mono e1).mono (Ext.new hg) |>.ret (S1.newG hp) (.lst upd_same (r1.mono (Ext.new hg)))
theorem cell_read {K : PySem.W.Frag} {mg : MG} {d : Env → M (List W)} {σ : L2.St} {H : Hp} {Q : VK} (h : tE K mg E (dCell d) σ H Q) : tF K mg E d σ H Q := by
  obtain ⟨F, G, m, env, st, S, R, P⟩ := h
  refine ⟨F, G, m, env, st, S, R, ?_⟩
  unfold dCell at P
  cases q : d env st with
  | stuck => rw [q] at P; exact P.elim
  | exc x st1 => rw [q] at P; exact P
  | ok xs st1 =>
    rw [q] at P
    intro G1 m1 p vs H1 e1 S1 hp r1
    have P : Post RW K mg E F G m (.ok (.cell st1.length) (st1 ++ [.lst xs])) Q := P
    have hg := fresh_back S1.ex hp
    refine (P.mono e1).mono (Ext.cell (p := p)) |>.ret (S1.newC hp ⟨hg, vs, upd_same, r1.mono Ext.cell⟩) (.cell ?_)
    rw [← S1.len]
    simp

/-! ### comprehensions -/
def hid (p : Addr) (H : Hp) : Hp := fun b => if b = p then none else H b
theorem upd_hid {p : Addr} {H : Hp} {o : HO} (h : H p = some o) : upd (hid p H) p o = H := by
  funext b
  unfold upd hid
  by_cases q : b = p
  · rw [if_pos q, q, h]
  · rw [if_neg q, if_neg q]
theorem sim_hid {K : PySem.W.Frag} {mg : MG} {F G : Hp} {m : List Addr} {st : Store} {H : Hp} {p : Addr} {o : HO} (S : Sim K mg (upd F p o) G m st H) (fp : F p = none) : Sim K mg F G m st (hid p H) := by
  have S' := S.less (F := F) fun b u e => by
    rw [upd_ne (ne_of_none e fp)]
    exact e
  have gp : G p = none := S.dj p o upd_same
  have ne : ∀ {b : Addr} {H : Hp}, b ≠ p → hid p H b = H b := fun {b H} q => if_neg q
  refine ⟨fun b u e => ?_, fun b u e => ?_, S'.dj, S'.fr, S.len, fun n c a h1 h2 => ?_, S.inj⟩
  · rw [ne (ne_of_none e gp)]
    exact S.ex b u e
  · rw [ne (ne_of_none e fp)]
    exact S'.exF b u e
  · have q := S.ok n c a h1 h2
    refine q.mono (Ext.refl G m) (fun l => (q.some l).1) (fun l => ne ?_)
    intro z
    subst z
    have h := S.fr n c a h1 l h2
    rw [upd_same] at h
    cases h
theorem wipe_none {σ : L2.St} : ∀ {vs : List Nat} {i : Nat} {v : Option V}, i ∈ vs → (wipe σ vs)[i]? = some v → v = none
  | v :: vs, i, w, h, e => by
    unfold wipe at e
    by_cases q : v = i
    · subst q
      by_cases l : v < (wipe σ vs).length
      · rw [List.getElem?_set_self l] at e
        cases e
        rfl
      · rw [List.getElem?_eq_none (by rw [List.length_set]; omega)] at e
        cases e
    · rw [List.getElem?_set_ne q] at e
      rcases List.mem_cons.mp h with h | h
      · exact absurd h.symm q
      · exact wipe_none h e
theorem wipe_id {σ : L2.St} : ∀ {us : List Nat}, (∀ i ∈ us, ∀ v, σ[i]? = some v → v = none) → wipe σ us = σ
  | [], _ => rfl
  | u :: us, h => by
    unfold wipe
    rw [wipe_id fun i hi => h i (List.mem_cons_of_mem _ hi)]
    apply List.ext_getElem?
    intro j
    by_cases q : u = j
    · subst q
      by_cases l : u < σ.length
      · rw [List.getElem?_set_self l, List.getElem?_eq_getElem l]
        rw [h u List.mem_cons_self _ (List.getElem?_eq_getElem l)]
      · rw [List.getElem?_eq_none (by rw [List.length_set]; omega), List.getElem?_eq_none (by omega)]
    · rw [List.getElem?_set_ne q]
theorem wipe_wipe (σ : L2.St) (vs : List Nat) : wipe (wipe σ vs) vs = wipe σ vs := wipe_id fun i hi v e => wipe_none hi e

open Classical in
noncomputable def lcGo (ok : Store → Prop) (g : T) (tt : Env → M Bool) (te : Env → M W) (env : Env) : List W → List W → Store → Out (List W)
  | [], acc, st => if ok st then .ok acc st else .stuck
  | w :: ws, acc, st => if ok st then (match g w env st with
    | .stuck => .stuck
    | .exc _ _ => .stuck
    | .ok env2 st => (tt env2 st).nox.bind fun b st => if b = true then ((te env2 st).nox.bind fun y st => if acc.length < sizeLine then lcGo ok g tt te env ws (acc ++ [y]) st else .stuck) else lcGo ok g tt te env ws acc st) else .stuck
noncomputable def dLc (it : Env → M It') (g : T) (tt : Env → M Bool) (te : Env → M W) (vs : List Nat) : Env → M (List W) := fun env st => (it env st).bind fun i st => lcGo i.ok g tt te (wipeW env vs) i.xs [] st
theorem lc_read {K : PySem.W.Frag} {mg : MG} {di : Env → M It'} {g : T} {tt : Env → M Bool} {te : Env → M W} {vs sl : List Nat} (hsl : ∀ i ∈ sl, i ∈ vs) {σ : L2.St} {H : Hp} {Q : VK} (h : tF K mg E (dLc di g tt te vs) σ H Q) :
    tLc (tIt K mg E di) (tG K mg sl g) (tT K mg E0 tt) (tE K mg E0 te) vs σ H Q := by
  obtain ⟨F, G, m, env, st, S, R, P⟩ := h
  refine ⟨F, G, m, env, st, S, R, (PostF.bind (R := RI mg) P).imp fun J H1 ⟨G1, m1, i1, st1, e1, S1, w1, P1⟩ => ?_⟩
  intro D hD
  have fD : F D = none := fresh_back S1.exF hD
  refine ⟨fun i k H' => k = i1.xs.length - i ∧ i ≤ i1.xs.length ∧ ∃ G' m' st' acc us, Ext G1 m1 G' m' ∧ Sim K mg (upd F D (.lst us)) G' m' st' H' ∧ RWs K G' m' acc us ∧ PostF K mg E F G' m' (lcGo i1.ok g tt te (wipeW env vs) (i1.xs.drop i) acc st') Q,
    ⟨_, rfl, Nat.zero_le _, G1, m1, st1, [], [], Ext.refl G1 m1, S1.more hD, .nil, P1⟩, ?_⟩
  rintro i k H' ⟨rfl, hi, G', m', st', acc, us, e', S', r', P'⟩
  by_cases hlt : i < i1.xs.length
  · rw [List.drop_eq_getElem_cons hlt, lcGo] at P'
    split at P'
    · rename_i hok
      refine .inr ⟨w1.go i H' _ G' m' st' e' S' hok hlt, fun H2 => ∃ G2 m2 st2 acc us, Ext G1 m1 G2 m2 ∧ Sim K mg (upd F D (.lst us)) G2 m2 st2 H2 ∧ RWs K G2 m2 acc us ∧ PostF K mg E F G2 m2 (lcGo i1.ok g tt te (wipeW env vs) (i1.xs.drop (i + 1)) acc st2) Q,
        fun H2 h2 => ⟨_, Nat.sub_lt_sub_left hlt (Nat.lt_succ_self i), rfl, hlt, h2⟩, fun x H2 hy => ?_⟩
      obtain ⟨w, G2, hw, eG, S2, r2⟩ := w1.yld i H' x H2 _ G' m' st' e' S' hok hlt hy
      rw [List.getElem?_eq_getElem hlt] at hw
      cases hw
      have x2 : Ext G' m' G2 m' := ⟨eG, fun _ _ h => h⟩
      refine ⟨_, G2, m', wipeW env vs, st', _, S2, ((R.mono (e1.trans (e'.trans x2))).wipe vs), r2, ?_⟩
      cases hg2 : g i1.xs[i] (wipeW env vs) st' with
      | stuck => simp only [hg2] at P'; exact P'.elim
      | exc x st => simp only [hg2] at P'; exact P'.elim
      | ok env2 st2 =>
        simp only [hg2] at P'
        intro G3 m3 σ3 H3 e3 S3 R3 o3
        refine ⟨(o3 vs hsl).trans (wipe_wipe σ vs), _, G3, m3, env2, st2, S3, R3, ?_⟩
        have P2 := PostF.mono e3 (PostF.mono x2 P')
        have r' := (r'.mono x2).mono e3
        have ee := (e'.trans x2).trans e3
        cases q : tt env2 st2 with
        | stuck => rw [q] at P2; exact P2.elim
        | exc x st4 => rw [q] at P2; exact P2.elim
        | ok b st4 =>
          rw [q] at P2
          intro G4 m4 b' H4 e4 S4 hb
          cases hb
          have P3 : PostF K mg E F G4 m4 (if b = true then ((te env2 st4).nox.bind fun y st => if acc.length < sizeLine then lcGo i1.ok g tt te (wipeW env vs) (i1.xs.drop (i + 1)) (acc ++ [y]) st else .stuck) else lcGo i1.ok g tt te (wipeW env vs) (i1.xs.drop (i + 1)) acc st4) Q := PostF.mono e4 P2
          have r4 := r'.mono e4
          cases b with
          | false => exact ⟨G4, m4, st4, acc, us, ee.trans e4, S4, r4, P3⟩
          | true =>
            refine ⟨_, G4, m4, env2, st4, S4, R3.mono e4, ?_⟩
            rw [if_pos rfl] at P3
            cases q2 : te env2 st4 with
            | stuck => rw [q2] at P3; exact P3.elim
            | exc x st5 => rw [q2] at P3; exact P3.elim
            | ok y st5 =>
              rw [q2] at P3
              intro G5 m5 v H5 e5 S5 r5
              have P5 : PostF K mg E F G5 m5 (if acc.length < sizeLine then lcGo i1.ok g tt te (wipeW env vs) (i1.xs.drop (i + 1)) (acc ++ [y]) st5 else .stuck) Q := PostF.mono e5 P3
              split at P5
              · rename_i z
                refine ⟨us, S5.exF D _ upd_same, by rw [← r'.length]; exact z, G5, m5, st5, acc ++ [y], us ++ [v], (ee.trans e4).trans e5, S5.turn, (r4.mono e5).append (.cons r5 .nil), P5⟩
              · exact P5.elim
    · exact P'.elim
  · have hd : i1.xs.drop i = [] := List.drop_eq_nil_of_le (by omega)
    rw [hd, lcGo] at P'
    split at P'
    · rename_i hok
      refine .inl ⟨w1.stop i H' _ G' m' st' e' S' hok (by omega), ?_⟩
      have q := P' G' m' D us (hid D H') (Ext.refl G' m') (sim_hid S' fD) (if_pos rfl) r'
      rw [upd_hid (S'.exF D _ upd_same)] at q
      exact q
    · exact P'.elim
abbrev JTs (X : Cx) (E : XK) (e : List Expr) (d : Env → M Bool) : Prop := PTs X e (tT X.K X.mg E d)
def tYesW : Env → M Bool := fun _ st => .ok true st
theorem jts_nil : JTs X E [] tYesW := ⟨fun pins s σ H Q I ⟨F, G, m, env, st, S, R, P⟩ => pts_nil.run pins s σ H Q I (show tYes σ H Q from P.ret S rfl)⟩
theorem jts_one {dt : Env → M Bool} (h : JT X E c dt) : JTs X E [c] dt := pts_one h
theorem jf_lc {elt tg iter : Expr} {ifs : List Expr} {scope : Scope} {own : List (Str × Nat)} {di : Env → M It'} {g : T} {sl : List Nat} {tt : Env → M Bool} {te : Env → M W} (hc : X.calm = true) (hN : X.N.Nodup) (hi : JI X E tg iter di) (ok : BlkOk X.N X.env.scope scope own)
    (hg : ∀ (s : Shared) (H : Hp) (C : Addr) (cl : List (Str × Addr)) (fp : List Addr), JG (X.blk s H scope (compEnvC scope cl C X.env) fp) tg sl g) (ht : ∀ (s : Shared) (H : Hp) (C : Addr) (cl : List (Str × Addr)) (fp : List Addr), JTs (X.blk s H scope (compEnvC scope cl C X.env) fp) E0 ifs tt)
    (he : ∀ (s : Shared) (H : Hp) (C : Addr) (cl : List (Str × Addr)) (fp : List Addr), JE (X.blk s H scope (compEnvC scope cl C X.env) fp) E0 elt te) (hsl : ∀ i ∈ sl, i ∈ own.map (·.2) := by decide) (hs : ∀ x, foldedSetIterable iter X.env x = pure x := by intro _; rfl) :
    JF X E (.ListComp elt [⟨tg, iter, ifs, 0⟩] scope pos) (dLc di g tt te (own.map (·.2))) :=
  weakE (pe_lc hc hN hi ok hg ht he hs) fun σ H Q h => lc_read hsl h
/-- y = [.. for ..] -/
theorem js_setLc {i : Nat} {y : Str} {py : Pos} {elt tg iter : Expr} {ifs : List Expr} {scope : Scope} {own : List (Str × Nat)} {spos : Pos} {di : Env → M It'} {g : T} {sl : List Nat} {tt : Env → M Bool} {te : Env → M W} {f : (Env → M (List W)) → Env → M W}
    (hf : ∀ (d : Env → M (List W)) σ H Q, tE X.K X.mg E (f d) σ H Q → tF X.K X.mg E d σ H Q)
    (hc : X.calm = true) (hN : X.N.Nodup) (hy : X.N[i]? = some y) (hyl : X.env.scope.names.lookup y = some .local)
    (hsw : swapsWith (.ListComp elt [⟨tg, iter, ifs, 0⟩] scope pos) (some (.Name y py)) spos.line X.env = pure true) (hi : JI X E tg iter di) (ok : BlkOk X.N X.env.scope scope own)
    (hg : ∀ (s : Shared) (H : Hp) (C : Addr) (cl : List (Str × Addr)) (fp : List Addr), JG (X.blk s H scope (compEnvC scope cl C X.env) fp) tg sl g) (ht : ∀ (s : Shared) (H : Hp) (C : Addr) (cl : List (Str × Addr)) (fp : List Addr), JTs (X.blk s H scope (compEnvC scope cl C X.env) fp) E0 ifs tt)
    (he : ∀ (s : Shared) (H : Hp) (C : Addr) (cl : List (Str × Addr)) (fp : List Addr), JE (X.blk s H scope (compEnvC scope cl C X.env) fp) E0 elt te) (hsl : ∀ i ∈ sl, i ∈ own.map (·.2) := by decide) (hs : ∀ x, foldedSetIterable iter X.env x = pure x := by intro _; rfl) :
    JS X E (.Assign [.Name y py] (.ListComp elt [⟨tg, iter, ifs, 0⟩] scope pos) spos) (sSet i (f (dLc di g tt te (own.map (·.2))))) := by
  refine weakS (ps_setLc (g := tG X.K X.mg sl g) (tt := tT X.K X.mg E0 tt) (te := tE X.K X.mg E0 te) hc hN hy hyl hsw hi ok hg ht he hs) ?_
  rintro D σ H ⟨F, G, m, env, st, S, R, P⟩
  have q : tE X.K X.mg E (f (dLc di g tt te (own.map (·.2)))) σ H (fun v H1 => D.nx (σ.set i (some v)) H1) :=
    ⟨F, G, m, env, st, S, R, (PostS.bindS (R := RW) P).imp fun v H1 ⟨G1, m1, w, st1, e1, S1, r1, P1⟩ => P1 G1 m1 _ H1 (Ext.refl G1 m1) S1 ((R.mono e1).set r1 i)⟩
  exact lc_read hsl (hf _ σ H _ q)

/-! ### repr of data, where no repr is under way -/
def cRepr : List W → M W := fun ws st => match ws with
  | [.non] => .ok (.str "None") st
  | [w] => match datC w st with
    | some d => if PyProof.Rows.isDisplay d = true ∧ d.showable = true ∧ d.depth ≤ 60 ∧ d.shown.length ≤ sizeLine then .ok (.str d.shown) st else .stuck
    | none => .stuck
  | _ => .stuck
mutual
theorem dat_noDict : ∀ {w : W} {d : PyData}, dat w = some d → d.hasDict = false
  | .non, d, h => by cases h; rfl
  | .bl b, d, h => by cases h; rfl
  | .int i, d, h => by cases h; rfl
  | .str x, d, h => by cases h; rfl
  | .tup xs, d, h => by
    cases q : dats xs with
    | none => rw [dat, q] at h; cases h
    | some ds => rw [dat, q] at h; cases h; exact dats_noDict q
  | .ftp xs, d, h => by
    cases q : dats xs with
    | none => rw [dat, q] at h; cases h
    | some ds => rw [dat, q] at h; cases h; exact dats_noDict q
  | .lst xs, d, h => by
    cases q : dats xs with
    | none => rw [dat, q] at h; cases h
    | some ds => rw [dat, q] at h; cases h; exact dats_noDict q
  | .fz xs, d, h => by
    cases q : dats xs with
    | none => rw [dat, q] at h; cases h
    | some ds => rw [dat, q] at h; cases h; exact dats_noDict q
  | .cell n, d, h => by cases h
theorem dats_noDict : ∀ {ws : List W} {ds : List PyData}, dats ws = some ds → PyData.hasDictAll ds = false
  | [], ds, h => by cases h; rfl
  | x :: xs, ds, h => by
    cases q : dat x with
    | none => rw [dats, q] at h; cases h
    | some d =>
      cases q2 : dats xs with
      | none => rw [dats, q, q2] at h; cases h
      | some es =>
        rw [dats, q, q2] at h
        cases h
        show (d.hasDict || PyData.hasDictAll es) = false
        rw [dat_noDict q, dats_noDict q2]
        rfl
end
theorem datC_noDict {w : W} {st : Store} {d : PyData} (h : datC w st = some d) : d.hasDict = false := by
  cases w with
  | cell n =>
    cases q : lviewT (.cell n) st with
    | none => rw [datC, q] at h; cases h
    | some xs =>
      cases q2 : dats xs with
      | none => simp only [datC, q, q2, Option.bind, Option.map] at h; cases h
      | some ds =>
        simp only [datC, q, q2, Option.bind, Option.map] at h
        cases h
        exact dats_noDict q2
  | _ => exact dat_noDict h
theorem call_reprD (hgd : X.A.guards = some []) (hu : X.A.units + 64 < cLine) : CallR X (.builtin "repr") (fun vs H Q => (vs = [.non] ∧ Q (.str "None") H) ∨ ∃ v d, vs = [v] ∧ Dp X.K H v d ∧ PyProof.Rows.isDisplay d = true ∧ d.showable = true ∧ d.hasDict = false ∧ d.depth ≤ 60 ∧ d.shown.length ≤ sizeLine ∧ Q (.str d.shown) H) := by
  intro pins s σ H vs us Q I r h
  rcases h with ⟨rfl, q⟩ | ⟨v, d, rfl, hd, h1, h2, h3, h4, h5, q⟩
  · obtain ⟨u, rfl, ru⟩ := vals1 r
    cases ru
    exact P.repr_of_none ⟨.str "None", H, I.tok _, ⟨_, rfl⟩, q⟩
  · obtain ⟨u, rfl, ru⟩ := vals1 r
    obtain ⟨as, rd⟩ := Dp.reads I d v u hd ru
    obtain ⟨adr, rfl⟩ := PyProof.Rows.isRef_of_reads rd h1
    refine repr_of_reads' rd h2 (PyData.noDict_hsm h3) hgd (by omega) (fun _ _ e => e) (fun h' u tk hk => ?_) h5
    exact ⟨.str d.shown, H, I.kept hk, ⟨_, rfl⟩, q⟩
theorem ok_repr {K : PySem.W.Frag} {mg : MG} : CallOk K mg E (fun vs H Q => (vs = [.non] ∧ Q (.str "None") H) ∨ ∃ v d, vs = [v] ∧ Dp K H v d ∧ PyProof.Rows.isDisplay d = true ∧ d.showable = true ∧ d.hasDict = false ∧ d.depth ≤ 60 ∧ d.shown.length ≤ sizeLine ∧ Q (.str d.shown) H) cRepr := by
  intro F G m st H ws vs Q S r P
  unfold cRepr at P
  split at P
  · cases r with
    | cons h r =>
      cases r
      cases h
      exact .inl ⟨rfl, P.ret S (.str _)⟩
  · rename_i w _
    cases r with
    | cons h r =>
      cases r
      split at P
      · rename_i d q
        split at P
        · rename_i z
          exact .inr ⟨_, d, rfl, datC_at S h q, z.1, z.2.1, datC_noDict q, z.2.2.1, z.2.2.2, P.ret S (.str _)⟩
        · exact P.elim
      · exact P.elim
  · exact P.elim
theorem je_repr (hgd : X.A.guards = some []) (hu : X.A.units + 64 < cLine) (hg : Gl X "repr") (hm : X.mg "repr" = none) (ha : JA X E (e :: es) ds) (he : starEach (e :: es) X.env = (false, eval e X.env) :: starEach es X.env := by rfl) (hpl : (backTo pos (starEach es X.env)).any (·.1) = false := by rfl) :
    JE X E (.Call (.Name "repr" p) (e :: es) [] pos) (dCallB cRepr ds) := je_callB (call_reprD hgd hu) ok_repr hg hm (by decide +kernel) ha (by decide) (by decide) he hpl
end
end Sh


set_option maxRecDepth 100000
set_option maxHeartbeats 2000000
namespace Sh
open PySem L2 Evl
variable [Wd]

/-! ### the law's own def, called from the claim's caller -/
def RunAt (A : Around) (P : Program) (w : World) (K : PySem.W.Frag) (mg : MG) (base : Heap) (fa : Addr) (fd : FuncData) (ps : List Str) (sp : Sp) : Prop :=
  ∀ (outer : List PySem.Env) (s : Shared) (H : Hp) (args : Args) (us : List Value) (vs : List V) (Q : VK), Env0 P w K mg base A outer s H → BindsTo s fd args (ps.zip us) → Vals vs us → sp vs H Q E0 →
    codeAny (model P w) A (.call (.ref fa) args) (CR CX0 outer P w H s Q E0) s
section
variable {P : Program} {w : World} {K : PySem.W.Frag} {mg : MG} {base : Heap} {x qual : Str} {st : Stmt} {f : Addr} {fd : FuncData} {N ps : List Str} {k : Nat}
theorem fn_at {s : S} {A : Around} (F : Fun K x qual st f fd) (hS : FnScope N ps (defScope st)) (hN : ps.length ≤ N.length) (hr : Room (k + 1) A)
    (hb : ∀ (cdv : Value) (outer : List PySem.Env) (sh : Shared) (H : Hp), Room k (A.deeper (PyProof.Rows.envOfC qual (defScope st) sh.heap.objs.size f cdv)) →
      JSs (cxOf CX0 P w K mg base N qual (defScope st) f cdv A outer sh H E0).nox E0 (defBody st) s) :
    RunAt A P w K mg base f fd ps (spM K mg (dBody ps.length N.length s)) := by
  obtain ⟨oc, od, kV, doc, pm, an, cdv, ct, osl, rfl, lk, hcd⟩ := F.ex
  intro outer s0 H args us vs Q e0 bind rv hsp
  have kin : K.In s0.heap := by
    refine e0.mod.kin.keeps ?_
    intro b o e
    exact (e0.bs b o e).1
  have nolim : s0.heap.NoLimit := by
    refine e0.mod.nolimit.keeps ?_
    intro b o e
    exact (e0.bs b o e).1
  have ln : vs.length = ps.length := spM_len hsp
  refine codeAny_call_function hr.depth (kin _ _ lk) rfl
    hS.co hS.gen rfl (PySem.W.codeRec_of kin hcd) ?_
  refine bind _ _ _ _ ?_
  refine wpAny_newFunctionEnv_cells hS.kind ?_ ?_
  · intro y hy
    obtain ⟨n, v⟩ := y
    have z := hS.par n (List.of_mem_zip hy).1
    rcases z with z | z
    · exact Or.inl z
    · exact Or.inr ⟨z, PySem.W.cellsFrom_some _ _ _ (Or.inl z)⟩
  · intro env he s1 ic
    subst he
    refine ⟨nolim.keeps ic.toInCall.keep, codeAny_func ?_⟩
    obtain ⟨t, ht, hq⟩ := body_ok (ps := ps) (Q := Q) rfl rfl (hb cdv outer s0 H (hr.deeper _)) hN hsp
    have inv := inv_start (CX := CX0) (E := E0) hS hr.hd e0 ln rv ic
    have go := ht.run [] s1 _ H _ (inv.wish fun _ _ => False) hq
    refine wpAny_mono go ?_ (fun _ _ z => False.elim z)
    intro fl s2 hs
    have give : ∀ {σ' : L2.St} {H' : Hp} {v : V} {u : Value}, Inv (cxOf CX0 P w K mg base N qual (defScope st) f cdv A outer s0 H E0).nox [] σ' H' s2 →
        RelV v u → Q v H' → CE outer P w H s0 Q u s2 := by
      intro σ' H' v u J r q
      exact ⟨v, H', J.os, J.bare, J.base, J.hok, r, q⟩
    cases fl with
    | next =>
      obtain ⟨σ', H', J, q⟩ := hs
      exact give (v := .non) J rfl q
    | ret u =>
      obtain ⟨v, σ', H', J, r, q⟩ := hs
      exact give J r q
    | brk => exact hs.choose_spec.choose_spec.2.elim
    | cont => exact hs.choose_spec.choose_spec.2.elim
end
theorem fz_ints {K : PySem.W.Frag} {G : Hp} {m : List Addr} : ∀ ns : List Int, RWs K G m (ns.map W.int) (ns.map V.int)
  | [] => .nil
  | n :: ns => .cons (.int n) (fz_ints ns)
omit [Wd] in
/-- from the law's def to the goal that the head leaves -/
theorem end_of {l : PySem.W.OpenLaw} {n : Nat} {q : Program} {loose : List Str} {XP : (Str → Option Value) → Heap → Prop} {YP : World → Heap → Prop} {d : DefRec} {K : Params → PySem.W.Frag} {x : Str} {f : List W → M W}
    (hn : l.most = some n) (hn2 : n ≤ sizeLine) (hdf : d.params.defaults = [])
    (hY : ∀ (w : World) (h : Heap), YP w h → (K w.params).In h)
    (run : ∀ (w : World) (mg : MG) (fa : Addr) (h : Heap), (K w.params).In h → h.Ns mainGlobals mg → mg d.name = some (.ref fa) →
      ∃ fd : FuncData, (∀ (s : Shared) (u : Value), BindsTo s fd ⟨[u], []⟩ [(x, u)]) ∧
        ∀ base : Heap, (K w.params).In base → base.Ns mainGlobals mg → RunAt callerA l.prog w (K w.params) mg base fa fd [x] (@spM ⟨l.prog, w⟩ (K w.params) mg f))
    (law : ∀ ns : List Int, ns.length ≤ n → ∃ st, f [.fz (ns.map W.int)] [] = .ok (.bl true) st) :
    PySem.W.WalkO q loose XP YP l.row.toRowW d [] (fun f vs => PySem.call f vs) := by
  refine Att.attach_call hn hdf ?_
  intro w s₀ s₁ mg mb fa o pm cd doc a vs ns Gr Y ho hd hcd hmg hobj hints hlen hg
  letI : Wd := ⟨l.prog, w⟩
  have kin := hY w _ Y
  obtain ⟨fd, hbind, hrun⟩ := run w mg fa _ kin Gr.T.g hmg
  obtain ⟨stL, hlaw⟩ := law ns hlen
  have rvs : Vals (ns.map V.int) vs := vals_ints hints
  have lv : vs.length = ns.length := hints.length.symm ▸ rfl
  -- the script is tracked, unless the module has it
  have core : ∀ H : Hp, (∀ b, H b = none ∨ (b = a ∧ (K w.params).lookup a = none ∧ ∃ ob ys, H b = some (.frz ob (.lst ys)))) → SqL (K w.params) H a (ns.map V.int) → HOk l.prog w H s₁.heap →
      codeAny (model l.prog w) callerA (.call (.ref fa) ⟨[.ref a], []⟩) (fun r s' => r = .ok (.ret (.bool true)) ∧ PySem.OldK s₁.heap s'.heap ∧ s'.os = s₁.os ∧ PyProof.Rows.AllBare s'.gens) s₁ := by
    intro H hO hS hok
    have at0 : ∀ {b : Addr} {ob : Obj}, s₁.heap.get? b = some ob → H b = none → (hidT s₁.heap H).get? b = some ob := fun e n => hidT_get e n
    have dict0 : ∀ {b : Addr} {ob : Obj} {es : Array DictEntry} {ep : Nat}, s₁.heap.get? b = some ob → ob.data = .dict es ep → H b = none := by
      intro b ob es ep e dd
      rcases hO b with z | ⟨z, _, _⟩
      · exact z
      · subst z
        rw [hobj] at e
        cases e
        cases dd
    have ns0 : ∀ {b : Addr} {mm : MG}, s₁.heap.Ns b mm → (hidT s₁.heap H).Ns b mm := by
      intro b mm z
      obtain ⟨ob, es, ep, e, dd, r⟩ := z
      exact ⟨ob, es, ep, at0 e (dict0 e dd), dd, r⟩
    have kin0 : (K w.params).In (hidT s₁.heap H) := by
      intro b ob e
      refine at0 (kin b ob e) ?_
      rcases hO b with z | ⟨z, z2, _⟩
      · exact z
      · subst z
        rw [z2] at e
        cases e
    obtain ⟨mc, c1, c2⟩ := Gr.T.nolimit
    have md : Mod (K w.params) mg (hidT s₁.heap H) := ⟨kin0, ns0 Gr.T.g, ⟨mb, ns0 Gr.T.b, Gr.T.builtins⟩, ⟨mc, ns0 c1, c2⟩⟩
    have e0 : Env0 l.prog w (K w.params) mg (hidT s₁.heap H) callerA [] s₁ H := {
      frames := rfl
      mod := md
      bs := fun b ob e => of_hidT e
      bsz := Nat.le_of_eq (hidT_size _ _)
      funs := trivial
      frf := fun b hb => nomatch hb
      hok := hok
      bare := .of_eq hg }
    have sp : spM (K w.params) mg f [.ref a] H (fun v _ => v = .bl true) E0 := by
      refine ⟨fun _ => none, H, [], [.fz (ns.map W.int)], [], ⟨Ex.refl H, (fun b u z => by cases z), (fun b u z => by cases z), (fun i c b z => by cases z), rfl, (fun i c b z => by cases z), (fun i j b c c' z => by cases z)⟩, .cons (.fz hS (fz_ints ns)) .nil, ?_⟩
      rw [hlaw]
      intro G' m' b H' _ _ r
      cases r
      rfl
    refine codeAny_mono (hrun _ kin0 (ns0 Gr.T.g) [] s₁ H ⟨[.ref a], []⟩ [.ref a] [.ref a] _ e0 (hbind s₁ (.ref a)) (.cons rfl .nil) sp) ?_
    intro r s' h
    cases r with
    | error e => exact h.elim
    | ok fl =>
      cases fl with
      | next => exact h.elim
      | brk => exact h.elim
      | cont => exact h.elim
      | ret u =>
        obtain ⟨v, H', os', bare', un, hok', rr, qv⟩ := h
        have qv : v = .bl true := qv
        subst qv
        obtain rfl : u = Value.bool true := rr
        refine ⟨rfl, PySem.OldK.of_keep fun b ob e => ?_, os', bare'⟩
        rcases hO b with z | ⟨_, _, oz, ys, z⟩
        · exact un.keep b ob e z (fun y => nomatch y) (fun y => nomatch y)
        · obtain ⟨e1, _⟩ := hok b _ z
          obtain ⟨e2, _⟩ := hok' b _ (un.frzs b oz _ z)
          rw [e] at e1
          cases e1
          exact e2
  cases lk : (K w.params).lookup a with
  | some ob =>
    have e := kin a ob lk
    rw [hobj] at e
    cases e
    refine core (fun _ => none) (fun _ => .inl rfl) (.inr ⟨_, vs.toArray, _, lk, rfl, rfl, rfl, ?_, by simpa using rvs⟩) (fun b u z => nomatch z)
    rw [List.size_toArray]
    omega
  | none =>
    refine core (fun b => if b = a then some (.frz { cls := .type "list", data := .seq vs.toArray } (.lst (ns.map V.int))) else none) (fun b => ?_) (.inl (.inr ⟨_, if_pos rfl⟩)) (fun b u z => ?_)
    · by_cases hb : b = a
      · exact .inr ⟨hb, lk, _, _, if_pos hb⟩
      · exact .inl (if_neg hb)
    · by_cases hb : b = a
      · have z := (if_pos hb).symm.trans z
        cases z
        subst hb
        refine ⟨hobj, ?_, vs, _, rvs, hobj⟩
        rw [List.length_map]
        omega
      · have z := (if_neg hb).symm.trans z
        cases z

/-- a def of the text, with its word -/
def Has (P : Program) (w : World) (K : PySem.W.Frag) (mg : MG) (base : Heap) (k : Nat) (x : Str) (ps : List Str) (m : List W → M W) : Prop :=
  ∃ f fd, mg x = some (.ref f) ∧ PySem.W.keepIn K (.ref f) = true ∧ Binds K fd ps [] ∧ FnOk P w K mg base CX0 k f fd ps (spM K mg m)
theorem Has.eq {P : Program} {w : World} {K : PySem.W.Frag} {mg : MG} {base : Heap} {k : Nat} {x : Str} {ps : List Str} {m g : List W → M W} (h : Has P w K mg base k x ps m) (e : ∀ ws st, (m ws st).nox = (g ws st).nox) : Has P w K mg base k x ps g :=
  let ⟨f, fd, h1, h2, h3, h4⟩ := h
  ⟨f, fd, h1, h2, h3, fn_eq h4 e⟩
section
variable {X : Cx} {E : XK} {e : Expr} {es : List Expr} {ds : Env → M (List W)} {p pos : Pos} {k j : Nat} {ps : List Str} {x : Str} {m : List W → M W}
theorem je_def (h : Has X.prog X.w X.K X.mg X.base k x ps m) (hr : Room j X.A) (ha : JA X E (e :: es) ds) (hj : k ≤ j := by decide) (hg : Gl X x := by rfl) (hdb : (x == ("__debug__" : Str)) = false := by decide) (he : starEach (e :: es) X.env = (false, eval e X.env) :: starEach es X.env := by rfl)
    (hpl : (backTo pos (starEach es X.env)).any (·.1) = false := by rfl) : JE X E (.Call (.Name x p) (e :: es) [] pos) (dCall m ds) :=
  let ⟨_, _, h1, h2, h3, h4⟩ := h
  je_call h4 (hr.mono hj) hg h1 h2 h3 ha hdb he hpl
theorem je_def0 (h : Has X.prog X.w X.K X.mg X.base k x ps m) (hr : Room j X.A) (hj : k ≤ j := by decide) (hg : Gl X x := by rfl) (hdb : (x == ("__debug__" : Str)) = false := by decide) : JE X E (.Call (.Name x p) [] [] pos) (dCall m dNil) :=
  let ⟨_, _, h1, h2, h3, h4⟩ := h
  je_call0 h4 (hr.mono hj) hg h1 h2 h3 hdb
end
theorem has_mk {P : Program} {w : World} {K : PySem.W.Frag} {mg : MG} {base : Heap} {x : Str} {st : Stmt} {f : Addr} {fd : FuncData} {N ps : List Str} {k : Nat} {s : S} (F : Fun K x x st f fd) (g : mg x = some (.ref f)) (b : Binds K fd ps []) (hS : FnScope N ps (defScope st)) (hN : ps.length ≤ N.length)
    (hb : ∀ (cdv : Value) (A : Around) (outer : List PySem.Env) (sh : Shared) (H : Hp) (E : XK), Room k (A.deeper (PyProof.Rows.envOfC x (defScope st) sh.heap.objs.size f cdv)) → JSs (cxOf CX0 P w K mg base N x (defScope st) f cdv A outer sh H E).nox E0 (defBody st) s) :
    Has P w K mg base (k + 1) x ps (dBody ps.length N.length s) := ⟨f, fd, g, F.kp, b, fn_ok F hS hN hb⟩
end Sh


set_option maxRecDepth 100000
set_option maxHeartbeats 2000000
namespace Sh
open PySem L2 Evl
variable [Wd]

/-! ### short names -/
abbrev oLt : W → W → M W := oI fun i j => .bl (decide (i < j))
abbrev oLe : W → W → M W := oI fun i j => .bl (decide (i ≤ j))
abbrev oGt : W → W → M W := oI fun i j => .bl (decide (j < i))
abbrev oGe : W → W → M W := oI fun i j => .bl (decide (j ≤ i))
abbrev dAdd (a b : Env → M W) := dOp (oI fun i j => .int (i + j)) a b
abbrev dSub (a b : Env → M W) := dOp (oI fun i j => .int (i - j)) a b
abbrev dMul (a b : Env → M W) := dOp (oIC CMul fun i j => .int (i * j)) a b
abbrev dMod (a b : Env → M W) := dOp (oIC (fun _ j => 0 < j) fun i j => .int (i % j)) a b
abbrev dDiv (a b : Env → M W) := dOp (oIC CDiv fun i j => .int (i / j)) a b
abbrev dLt (a b : Env → M W) := dOp oLt a b
abbrev dLe (a b : Env → M W) := dOp oLe a b
abbrev dGt (a b : Env → M W) := dOp oGt a b
abbrev dGe (a b : Env → M W) := dOp oGe a b
abbrev dEq (a b : Env → M W) := dOp oEq a b
abbrev dNe (a b : Env → M W) := dOp oNe a b
abbrev dIn (a b : Env → M W) := dOp (oIn false) a b
abbrev dNotIn (a b : Env → M W) := dOp (oIn true) a b
abbrev dIsN (a b : Env → M W) := dOp oIsN a b
abbrev dNotN (a b : Env → M W) := dOp oNotN a b
def fuel : Env → Store → Nat := fun _ _ => 1000000
section
variable {K : PySem.W.Frag} {mg : MG} {E : XK}
theorem ok_lt : OpOk K mg E (rI0 fun i j => .bl (decide (i < j))) oLt := ok_I fun i j _ _ => .bl _
theorem ok_le : OpOk K mg E (rI0 fun i j => .bl (decide (i ≤ j))) oLe := ok_I fun i j _ _ => .bl _
theorem ok_gt : OpOk K mg E (rI0 fun i j => .bl (decide (j < i))) oGt := ok_I fun i j _ _ => .bl _
theorem ok_ge : OpOk K mg E (rI0 fun i j => .bl (decide (j ≤ i))) oGe := ok_I fun i j _ _ => .bl _
end
section
variable {X : Cx} {E : XK} {a b c e o : Expr} {es : List Expr} {da db dc d dO : Env → M W} {ds : Env → M (List W)} {p pos apos cpos : Pos}
theorem je_append (ho : JE X E o dO) (ha : JA X E (e :: es) ds) (hbase : attributeBase o "append" X.env (eval o X.env) = eval o X.env := by rfl)
    (hfew : ((backTo cpos (starEach (e :: es) X.env)).all (fun x => !x.1) && (backToKw cpos (keywordEach [] X.env)).all (fun x => x.1.isSome)
      && decide ((e :: es).length + ([] : List Keyword).length + (if ([] : List Keyword).isEmpty then 0 else 1) < 30)) = true := by rfl)
    (hline : (apos.endLine == cpos.line) = true := by rfl) (hs : starEach (e :: es) X.env = (false, eval e X.env) :: starEach es X.env := by rfl) (hplain : (backTo cpos (starEach es X.env)).any (·.1) = false := by rfl) :
    JE X E (.Call (.Attribute o "append" apos) (e :: es) [] cpos) (dBM tyL mAppend dO ds) := je_bm PySem.F.plainAttrs_list PySem.F.slot_list_append PySem.F.type_list_append mt_append tyL_ok ok_append ho ha hbase hfew hline hs hplain
theorem je_popAt (ho : JE X E o dO) (ha : JA X E (e :: es) ds) (hbase : attributeBase o "pop" X.env (eval o X.env) = eval o X.env := by rfl)
    (hfew : ((backTo cpos (starEach (e :: es) X.env)).all (fun x => !x.1) && (backToKw cpos (keywordEach [] X.env)).all (fun x => x.1.isSome)
      && decide ((e :: es).length + ([] : List Keyword).length + (if ([] : List Keyword).isEmpty then 0 else 1) < 30)) = true := by rfl)
    (hline : (apos.endLine == cpos.line) = true := by rfl) (hs : starEach (e :: es) X.env = (false, eval e X.env) :: starEach es X.env := by rfl) (hplain : (backTo cpos (starEach es X.env)).any (·.1) = false := by rfl) :
    JE X E (.Call (.Attribute o "pop" apos) (e :: es) [] cpos) (dBM tyL mPopAt dO ds) := je_bm PySem.F.plainAttrs_list PySem.F.slot_list_pop PySem.F.type_list_pop mt_popAt tyL_ok ok_popAt ho ha hbase hfew hline hs hplain
theorem je_pop (ho : JE X E o dO) (hbase : attributeBase o "pop" X.env (eval o X.env) = eval o X.env := by rfl) (hline : (apos.endLine == cpos.line) = true := by rfl) :
    JE X E (.Call (.Attribute o "pop" apos) [] [] cpos) (dBM0 tyL mPop dO) := je_bm0 PySem.F.plainAttrs_list PySem.F.slot_list_pop PySem.F.type_list_pop mt_pop tyL_ok ok_pop ho hbase hline
theorem je_index (ho : JE X E o dO) (ha : JA X E (e :: es) ds) (hbase : attributeBase o "index" X.env (eval o X.env) = eval o X.env := by rfl)
    (hfew : ((backTo cpos (starEach (e :: es) X.env)).all (fun x => !x.1) && (backToKw cpos (keywordEach [] X.env)).all (fun x => x.1.isSome)
      && decide ((e :: es).length + ([] : List Keyword).length + (if ([] : List Keyword).isEmpty then 0 else 1) < 30)) = true := by rfl)
    (hline : (apos.endLine == cpos.line) = true := by rfl) (hs : starEach (e :: es) X.env = (false, eval e X.env) :: starEach es X.env := by rfl) (hplain : (backTo cpos (starEach es X.env)).any (·.1) = false := by rfl) :
    JE X E (.Call (.Attribute o "index" apos) (e :: es) [] cpos) (dBM tyL mIndex dO ds) := je_bm PySem.F.plainAttrs_list PySem.F.slot_list_index PySem.F.type_list_index mt_index tyL_ok ok_index ho ha hbase hfew hline hs hplain

/-! ### not, chains, truth -/
def oNot : W → M W := fun w st => match w with
  | .bl b => .ok (.bl (!b)) st
  | _ => .stuck
theorem je_not (h : JE X E a da) : JE X E (.UnaryOp .Not a pos) (dUn oNot da) := by
  refine weakE (pe_not h) ?_
  rintro σ H Q ⟨F, G, m, env, st, S, R, P⟩
  refine ⟨F, G, m, env, st, S, R, P.bind.imp fun v H1 ⟨G1, m1, w, st1, e1, S1, r1, P1⟩ => ?_⟩
  unfold oNot at P1
  split at P1
  · cases r1
    exact ⟨_, rfl, P1.ret S1 (.bl _)⟩
  · exact P1.elim
/-- a < b < c -/
def dChain (f g : W → W → M W) (a b c : Env → M W) : Env → M W := fun env st => (a env st).bind fun x st => (b env st).bind fun y st => (f x y st).bind fun z st => match z with
  | .bl true => (c env st).bind fun w st => g y w st
  | .bl false => .ok (.bl false) st
  | _ => .stuck
theorem chain_read {K : PySem.W.Frag} {mg : MG} {r r' : R2} {f g : W → W → M W} (hf : OpOk K mg E r f) (hg : OpOk K mg E r' g) {σ : L2.St} {H : Hp} {Q : VK} (h : tE K mg E (dChain f g da db dc) σ H Q) :
    tE K mg E da σ H fun x H1 => tE K mg E db σ H1 fun y H2 => r x y H2 fun z H3 => ∃ k, z = .bl k ∧ if k = true then tE K mg E dc σ H3 fun w H4 => r' y w H4 Q else Q (.bl false) H3 := by
  obtain ⟨F, G, m, env, st, S, R, P⟩ := h
  refine ⟨F, G, m, env, st, S, R, (P.bind (R := RW)).imp fun v1 H1 ⟨G1, m1, x, st1, e1, S1, r1, P1⟩ => ?_⟩
  refine ⟨F, G1, m1, env, st1, S1, R.mono e1, (P1.bind (R := RW)).imp fun v2 H2 ⟨G2, m2, y, st2, e2, S2, r2, P2⟩ => ?_⟩
  refine hf F G2 m2 st2 H2 x y v1 v2 _ S2 (RW.mono e2 r1) r2 ((P2.bind (R := RW)).imp fun v3 H3 ⟨G3, m3, z, st3, e3, S3, r3, P3⟩ => ?_)
  split at P3
  · cases r3
    refine ⟨true, rfl, ?_⟩
    rw [if_pos rfl]
    exact ⟨F, G3, m3, env, st3, S3, ((R.mono e1).mono e2).mono e3, (P3.bind (R := RW)).imp fun v4 H4 ⟨G4, m4, w, st4, e4, S4, r4, P4⟩ => hg F G4 m4 st4 H4 y w v2 v4 Q S4 (RW.mono e4 (RW.mono e3 r2)) r4 P4⟩
  · cases r3
    exact ⟨false, rfl, P3.ret S3 (.bl false)⟩
  · exact P3.elim
theorem je_chain {op op' : CmpOp} {r r' : R2} {f g : W → W → M W} (ho : OpR X (compareOp op) r) (hf : OpOk X.K X.mg E r f) (ho' : OpR X (compareOp op') r') (hg : OpOk X.K X.mg E r' g) (ha : JE X E a da) (hb : JE X E b db) (hc : JE X E c dc) (hmk : lastMarks [op, op'] [b, c] = false := by rfl) :
    JE X E (.Compare a [op, op'] [b, c] pos) (dChain f g da db dc) := weakE (pe_chain ho ho' ha hb hc hmk) fun σ H Q h => chain_read hf hg h
theorem jt_chain {op op' : CmpOp} {r r' : R2} {f g : W → W → M W} (ho : OpR X (compareOp op) r) (hf : OpOk X.K X.mg E r f) (ho' : OpR X (compareOp op') r') (hg : OpOk X.K X.mg E r' g) (ha : JE X E a da) (hb : JE X E b db) (hc : JE X E c dc) (hmk : lastMarks [op, op'] [b, c] = false := by rfl) :
    JT X E (.Compare a [op, op'] [b, c] pos) (dB (dChain f g da db dc)) := by
  refine weakT (pt_chain ho ho' ha hb hc hmk) ?_
  rintro σ H Q ⟨F, G, m, env, st, S, R, P⟩
  have q : tE X.K X.mg E (dChain f g da db dc) σ H fun x H1 => ∃ k, x = .bl k ∧ Q k H1 := ⟨F, G, m, env, st, S, R, (P.bind (R := RW)).imp fun v H1 ⟨G1, m1, w, st1, e1, S1, r1, P1⟩ => tru_B F G1 m1 st1 H1 w v Q S1 r1 P1⟩
  exact chain_read hf hg q
/-- by truth -/
def asTru : W → M Bool := fun w st => match w with
  | .non => .ok false st
  | .bl b => .ok b st
  | .int i => .ok (i != 0) st
  | w => match sview w st with
    | some xs => .ok (!xs.isEmpty) st
    | none => .stuck
def dTru (d : Env → M W) : Env → M Bool := fun env st => (d env st).bind asTru
theorem empty_of {K : PySem.W.Frag} {G : Hp} {m : List Addr} {xs : List W} {vs : List V} (r : RWs K G m xs vs) : (!xs.isEmpty) = !vs.isEmpty := by
  cases r <;> rfl
theorem tru_W {K : PySem.W.Frag} {mg : MG} : TruOk K mg E (fun x H Q => ∃ k, TruV K x H k ∧ Q k H) asTru := by
  intro F G m st H x v Q S r P
  unfold asTru at P
  split at P
  · cases r
    exact ⟨_, rfl, P.ret S rfl⟩
  · cases r
    exact ⟨_, rfl, P.ret S rfl⟩
  · cases r
    exact ⟨_, rfl, P.ret S rfl⟩
  · split at P
    · rename_i xs q
      obtain ⟨a, vs, rfl, h1, h2⟩ := sview_at S r q
      rw [empty_of h2] at P
      refine ⟨_, ?_, P.ret S rfl⟩
      rcases h1 with h1 | h1
      · exact .inl ⟨_, h1, rfl⟩
      · exact .inr (.inl ⟨_, h1, rfl⟩)
    · exact P.elim
theorem jt_tru (h : JE X E e d) (he : ∀ whole, isTrue e X.env whole = (do let v ← whole; standAt e.pos; holding [v] (truthy v)) := by intro _; rfl) : JT X E e (dTru d) := jt_of (t := fun σ H Q => tE X.K X.mg E d σ H fun x H' => ∃ k, TruV X.K x H' k ∧ Q k H') (r := fun x H' Q => ∃ k, TruV X.K x H' k ∧ Q k H') (pt_truth h he) tru_W

/-! ### enumerate, zip -/
def enW : Nat → List W → List W
  | _, [] => []
  | i, x :: xs => .tup [.int (i : Int), x] :: enW (i + 1) xs
theorem enW_len : ∀ {xs : List W} {i : Nat}, (enW i xs).length = xs.length
  | [], _ => rfl
  | _ :: xs, i => by unfold enW; rw [List.length_cons, List.length_cons, enW_len]
theorem enW_get : ∀ {xs : List W} {i j : Nat} {x : W}, xs[j]? = some x → (enW i xs)[j]? = some (.tup [.int ((i + j : Nat) : Int), x])
  | y :: xs, i, 0, x, h => by
    cases h
    rfl
  | y :: xs, i, j + 1, x, h => by
    unfold enW
    have e : i + 1 + j = i + (j + 1) := by omega
    rw [List.getElem?_cons_succ, enW_get (i := i + 1) (j := j) (by simpa using h), e]
def iEn (ds : Env → M (List W)) : Env → M It' := fun env st => (ds env st).bind fun ws st => match ws with
  | [.lst xs] => .ok ⟨enW 0 xs, fun _ => True⟩ st
  | [.fz xs] => .ok ⟨enW 0 xs, fun _ => True⟩ st
  | [.cell n] => match lcell st n with
    | some xs => .ok ⟨enW 0 xs, fun st => lcell st n = some xs⟩ st
    | none => .stuck
  | _ => .stuck
theorem walks_enum {K : PySem.W.Frag} {mg : MG} {G : Hp} {m : List Addr} {xs : List W} {adr : Addr} {ok : Store → Prop}
    (h : ∀ H F G1 m1 st, Ext G m G1 m1 → Sim K mg F G1 m1 st H → ok st → ∃ vs, SqL K H adr vs ∧ RWs K G1 m1 xs vs) : Walks K mg G m (enW 0 xs) ok (Ite K adr) where
  go := fun i H F G1 m1 st e S k hi => by
    obtain ⟨vs, h1, h2⟩ := h H F G1 m1 st e S k
    rw [enW_len] at hi
    exact ⟨vs, vs[i]'(by rw [← h2.length]; exact hi), h1, List.getElem?_eq_getElem _⟩
  stop := fun i H F G1 m1 st e S k hi => by
    obtain ⟨vs, h1, h2⟩ := h H F G1 m1 st e S k
    rw [enW_len] at hi
    exact ⟨vs, h1, by rw [← h2.length]; exact hi⟩
  yld := fun i H x H' F G1 m1 st e S k hi hy => by
    obtain ⟨vs, h1, h2⟩ := h H F G1 m1 st e S k
    obtain ⟨T, v, rfl, hT, rfl, h3⟩ := hy
    obtain ⟨w, h4, h5⟩ := h2.get' (h3 vs h1)
    have hg := fresh_back S.ex hT
    refine ⟨.tup [.int ((0 + i : Nat) : Int), w], _, enW_get h4, Ex.new hg, S.newG hT, .tup upd_same (.cons ?_ (.cons (h5.mono (Ext.new hg)) .nil))⟩
    rw [Nat.zero_add]
    exact .int _
theorem ji_enum {elts : List Expr} {kk : Nat} {tpos : Pos} (hg : Gl X "enumerate") (hm : X.mg "enumerate" = none) (ha : JA X E [e] ds) (hs : starEach [e] X.env = [(false, eval e X.env)] := by rfl) :
    JI X E (.Tuple elts kk tpos) (.Call (.Name "enumerate" p) [e] [] pos) (iEn ds) := by
  refine weakI (pi_enum hg hm ha hs) ?_
  rintro σ H Q ⟨F, G, m, env, st, S, R, P⟩
  refine ⟨F, G, m, env, st, S, R, (P.bind (R := RA)).imp fun vs H1 ⟨G1, m1, ws, st1, e1, S1, r1, P1⟩ => ?_⟩
  split at P1
  · cases r1 with
    | cons h r =>
      cases r
      cases h with
      | @lst p us _ h1 h2 => exact ⟨p, us, rfl, .inl (.inl (S1.ex _ _ h1)), P1.ret S1 (walks_enum fun H F G1 m1 st e S k => ⟨us, .inl (.inl (S.ex _ _ (e.ex _ _ h1))), h2.mono e⟩)⟩
  · cases r1 with
    | cons h r =>
      cases r
      cases h with
      | @fz p us _ h1 h2 => exact ⟨p, us, rfl, ex_l S1.ex h1, P1.ret S1 (walks_enum fun H F G1 m1 st e S k => ⟨us, ex_l S.ex (ex_l e.ex h1), h2.mono e⟩)⟩
  · rename_i n
    split at P1
    · rename_i xs q
      cases r1 with
      | cons h r =>
        cases r
        cases h with
        | @cell _ adr hm =>
          obtain ⟨g0, us, h2, h3⟩ := S1.ok n _ adr (lcell_some q) hm
          refine ⟨adr, us, rfl, .inl (.inl h2), P1.ret S1 (walks_enum fun H F G1 m1 st e S k => ?_)⟩
          obtain ⟨_, us', h4, h5⟩ := S.ok n _ adr (lcell_some k) (e.mm _ _ hm)
          exact ⟨us', .inl (.inl h4), h5⟩
    · exact P1.elim
  · exact P1.elim

/-! ### sorted, pairs of ints -/
def leP (x y : Int × Int) : Bool := decide (x.1 < y.1 ∨ (x.1 = y.1 ∧ x.2 ≤ y.2))
def pairs? : List W → Option (List (Int × Int))
  | [] => some []
  | .tup [.int i, .int j] :: xs => (pairs? xs).map fun r => (i, j) :: r
  | _ => none
def tupP (x : Int × Int) : W := .tup [.int x.1, .int x.2]
def cSortedP : List W → M (List W) := fun ws st => match ws with
  | [w] => match lview w st with
    | some xs => match pairs? xs with
      | some ps => .ok ((ps.mergeSort leP).map tupP) st
      | none => .stuck
    | none => .stuck
  | _ => .stuck
theorem pairs_map : ∀ {xs : List W} {ps : List (Int × Int)}, pairs? xs = some ps → xs = ps.map tupP
  | [], ps, h => by cases h; rfl
  | x :: xs, ps, h => by
    unfold pairs? at h
    split at h
    · rename_i q
      cases q
    · rename_i i j ys q
      cases q
      cases h2 : pairs? xs with
      | none => rw [h2] at h; cases h
      | some r =>
        rw [h2] at h
        cases h
        rw [pairs_map h2]
        rfl
    · cases h
theorem leP_trans (a b c : Int × Int) (h1 : leP a b = true) (h2 : leP b c = true) : leP a c = true := by
  simp only [leP, decide_eq_true_eq] at *
  omega
theorem leP_total (a b : Int × Int) : (leP a b || leP b a) = true := by
  simp only [leP, Bool.or_eq_true, decide_eq_true_eq]
  omega
theorem leP_anti (a b : Int × Int) (h1 : leP a b = true) (h2 : leP b a = true) : a = b := by
  simp only [leP, decide_eq_true_eq] at *
  exact Prod.ext (by omega) (by omega)
theorem sortP_uniq {xs ys : List (Int × Int)} (hp : ys.Perm xs) (hs : ys.Pairwise fun a b => leP a b = true) : ys = xs.mergeSort leP :=
  List.Perm.eq_of_pairwise (fun a b _ _ h1 h2 => leP_anti a b h1 h2) hs (List.pairwise_mergeSort leP_trans leP_total xs) (hp.trans (List.mergeSort_perm xs leP).symm)
def keyO : Option HO → Int × Int
  | some (.tup [.int i, .int j]) => (i, j)
  | _ => (0, 0)
def keyP (H : Hp) : V → Int × Int
  | .ref t => keyO (H t)
  | _ => (0, 0)
theorem ok_sortedP {K : PySem.W.Frag} {mg : MG} : CallOkF K mg E (rSortedPO K) cSortedP := by
  intro F G m st H ws vs Q S r P
  unfold cSortedP at P
  split at P
  · cases r with
    | cons h r =>
      cases r
      split at P
      · rename_i xs q
        split at P
        · rename_i ps q2
          obtain ⟨a, us, rfl, h1, h2⟩ := lview_at S h q
          have hx := pairs_map q2
          subst hx
          -- what the key says
          have key : ∀ {ps : List (Int × Int)} {us : List V}, RWs K G m (ps.map tupP) us → us.map (keyP H) = ps ∧ ∀ u ∈ us, (∃ t, u = V.ref t ∧ H t = some (.tup [.int (keyP H u).1, .int (keyP H u).2])) ∧ RW K G m (tupP (keyP H u)) u := by
            intro ps
            induction ps with
            | nil =>
              intro us r
              cases r
              exact ⟨rfl, fun u hu => nomatch hu⟩
            | cons p ps ih =>
              intro us r
              rw [List.map_cons] at r
              generalize hx : tupP p = x at r
              cases r with
              | @cons _ u _ us r1 r2 =>
                obtain ⟨ih1, ih2⟩ := ih r2
                subst hx
                have h0 := r1
                unfold tupP at r1
                cases r1 with
                | @tup t ws _ g1 g2 =>
                  cases g2 with
                  | cons a1 g3 =>
                    cases g3 with
                    | cons a2 g4 =>
                      cases g4
                      cases a1
                      cases a2
                      have hk : keyP H (.ref t) = p := by
                        show keyO (H t) = p
                        rw [S.ex _ _ g1]
                        rfl
                      refine ⟨by rw [List.map_cons, hk, ih1], fun u hu => ?_⟩
                      rcases List.mem_cons.mp hu with rfl | hu
                      · rw [hk]
                        exact ⟨⟨t, rfl, S.ex _ _ g1⟩, h0⟩
                      · exact ih2 u hu
          obtain ⟨k1, k2⟩ := key h2
          refine ⟨a, us, keyP H, rfl, h1, fun u hu => (k2 u hu).1, fun ys p hsr hst hp => ?_⟩
          have perm : ys.Perm us := hst.perm
          have e : ys.map (keyP H) = ps.mergeSort leP := by
            refine sortP_uniq ?_ ?_
            · have := perm.map (keyP H)
              rw [k1] at this
              exact this
            · refine List.pairwise_map.mpr (hsr.imp fun {x y} hxy => ?_)
              have z := SrtO.lexB_no.mp hxy
              simp only [leP, decide_eq_true_eq]
              omega
          refine P.ret S hp ?_
          rw [← e]
          have rel : ∀ {ys : List V}, (∀ u ∈ ys, u ∈ us) → RWs K G m ((ys.map (keyP H)).map tupP) ys := by
            intro ys
            induction ys with
            | nil => intro _; exact .nil
            | cons y ys ih => intro hy; exact .cons (k2 y (hy y List.mem_cons_self)).2 (ih fun u hu => hy u (List.mem_cons_of_mem _ hu))
          exact rel fun u hu => perm.mem_iff.mp hu
        · exact P.elim
      · exact P.elim
  · exact P.elim
theorem jf_sortedP (hg : Gl X "sorted") (hm : X.mg "sorted" = none) (ha : JA X E (e :: es) ds) (he : starEach (e :: es) X.env = (false, eval e X.env) :: starEach es X.env := by rfl) (hpl : (backTo pos (starEach es X.env)).any (·.1) = false := by rfl) :
    JF X E (.Call (.Name "sorted" p) (e :: es) [] pos) (dCallF cSortedP ds) := jf_callB cr_sortedPO ok_sortedP hg hm (by decide +kernel) ha (by decide) (by decide) he hpl
end
end Sh


set_option maxRecDepth 100000
set_option maxHeartbeats 4000000
namespace Sh
open PySem L2 Evl
variable [Wd]

/-! ### to reckon with -/
theorem shaped_int (i : Int) : SeqAt.shaped (.int i) = true := by simp [SeqAt.shaped, PyData.canLay0, PyData.depth]
@[simp] theorem oEq_int (a b : Int) (st : Store) : oEq (.int a) (.int b) st = .ok (.bl (decide (a = b))) st := rfl
@[simp] theorem oNe_int (a b : Int) (st : Store) : oNe (.int a) (.int b) st = .ok (.bl (!decide (a = b))) st := rfl
@[simp] theorem oEq_str (a b : Str) (st : Store) : oEq (.str a) (.str b) st = .ok (.bl (decide (a = b))) st := rfl
@[simp] theorem oNe_str (a b : Str) (st : Store) : oNe (.str a) (.str b) st = .ok (.bl (!decide (a = b))) st := rfl
@[simp] theorem dVar_zero (w : W) (env : Env) (st : Store) : dVar 0 (some w :: env) st = .ok w st := rfl
@[simp] theorem dVar_succ (i : Nat) (o : Option W) (env : Env) (st : Store) : dVar (i + 1) (o :: env) st = dVar i env st := rfl
@[simp] theorem dC_at (w : W) (env : Env) (st : Store) : dC w env st = .ok w st := rfl
@[simp] theorem dNil_at (env : Env) (st : Store) : dNil env st = .ok [] st := rfl
@[simp] theorem oI_at (g : Int → Int → W) (i j : Int) (st : Store) : oI g (.int i) (.int j) st = .ok (g i j) st := rfl
theorem oIC_at {c : Int → Int → Prop} [∀ i j, Decidable (c i j)] {g : Int → Int → W} {i j : Int} {st : Store} (h : c i j) : oIC c g (.int i) (.int j) st = .ok (g i j) st := if_pos h
theorem cmul {i j : Int} (h : -(2 ^ 64) < j ∧ j < 2 ^ 64) : CMul i j := .inr h
@[simp] theorem asB_at (b : Bool) (st : Store) : asB (.bl b) st = .ok b st := rfl
@[simp] theorem cInt_int (i : Int) (st : Store) : cInt [.int i] st = .ok (.int i) st := rfl
@[simp] theorem cInt_bl (b : Bool) (st : Store) : cInt [.bl b] st = .ok (.int (if b then 1 else 0)) st := rfl
@[simp] theorem cAbs_int (i : Int) (st : Store) : cAbs [.int i] st = .ok (.int (if i < 0 then -i else i)) st := rfl
theorem ix_at {w x : W} {xs : List W} {i : Int} {st : Store} (h : sview w st = some xs) (hi : 0 ≤ i) (hx : xs[i.toNat]? = some x) : oIx w (.int i) st = .ok x st := by
  have hl := (List.getElem?_eq_some_iff.mp hx).1
  have e : L2.atI xs i = some x := by
    unfold L2.atI ixN
    rw [if_pos hi, if_pos (by omega)]
    exact hx
  unfold oIx
  rw [h]
  simp only [e]
theorem cLen_at {w : W} {xs : List W} {st : Store} (h : sview w st = some xs) : cLen [w] st = .ok (.int xs.length) st := by
  unfold cLen
  cases w with
  | str x => cases h
  | _ => simp only [h]
@[simp] theorem sview_cell (n : Nat) (st : Store) : sview (.cell n) st = lcell st n := rfl
@[simp] theorem sview_fz (xs : List W) (st : Store) : sview (.fz xs) st = some xs := rfl
@[simp] theorem sview_lst (xs : List W) (st : Store) : sview (.lst xs) st = some xs := rfl
@[simp] theorem sview_tup (xs : List W) (st : Store) : sview (.tup xs) st = some xs := rfl
@[simp] theorem lview_cell (n : Nat) (st : Store) : lview (.cell n) st = lcell st n := rfl
@[simp] theorem lview_fz (xs : List W) (st : Store) : lview (.fz xs) st = some xs := rfl
@[simp] theorem lview_lst (xs : List W) (st : Store) : lview (.lst xs) st = some xs := rfl
@[simp] theorem lviewT_cell (n : Nat) (st : Store) : lviewT (.cell n) st = lcell st n := rfl
@[simp] theorem lviewT_lst (xs : List W) (st : Store) : lviewT (.lst xs) st = some xs := rfl
theorem lcell_lt {st : Store} {n : Nat} {xs : List W} (h : lcell st n = some xs) : n < st.length := (List.getElem?_eq_some_iff.mp (lcell_some h)).1
theorem lcell_set {st : Store} {n : Nat} {xs : List W} (h : n < st.length) : lcell (st.set n (.lst xs)) n = some xs := by
  unfold lcell
  rw [List.getElem?_set_self h]
theorem lcell_set_ne {st : Store} {n k : Nat} {c : C} (h : n ≠ k) : lcell (st.set n c) k = lcell st k := by
  unfold lcell
  rw [List.getElem?_set_ne h]
theorem lcell_app {st r : Store} {n : Nat} (h : n < st.length) : lcell (st ++ r) n = lcell st n := by
  unfold lcell
  rw [List.getElem?_append_left h]
theorem lcell_new {st r : Store} {xs : List W} : lcell (st ++ .lst xs :: r) st.length = some xs := by
  unfold lcell
  rw [List.getElem?_append_right (Nat.le_refl _), Nat.sub_self]
  rfl

theorem cm1 (i : Int) : CMul i 48271 := .inr (by decide)
theorem cm2 (i : Int) : CMul i 69621 := .inr (by decide)
theorem cm3 (i : Int) : CMul i 7919 := .inr (by decide)
theorem cm4 (i : Int) : CMul i 16807 := .inr (by decide)
/-! ### the law's state and its draws -/
noncomputable def b_state : S :=
  (sSeq (sSet 1 (dC (.int 0)))
  (sSeq (sSet 2 (dC (.int 0)))
  (sSeq (sIf (dB (dGt (dCallB cLen (dCons (dVar 0) dNil)) (dC (.int 0))))
  (sSeq (sSet 1 (dMod (dCallB cInt (dCons (dOp oIx (dVar 0) (dC (.int 0))) dNil)) (dC (.int 2))))
  (sSet 2 (dOp oIx (dPure (dLst (dCons (dDiv (dCallB cAbs (dCons (dOp oIx (dVar 0) (dC (.int 0))) dNil)) (dC (.int 2))) (dCons (dC (.int 1)) dNil)))) (dVar 1))))
  sNil)
  (sRet (dCell (dLst (dCons (dVar 0) (dCons (dVar 2) (dCons (dC (.int 1)) (dCons (dVar 1) (dCons (dPure (dLst dNil)) (dCons (dC (.int 0)) (dCons (dC (.int 0)) (dCons (dC (.int 0)) dNil))))))))))))))
noncomputable def m_state : List W → M W := dBody 1 3 b_state
noncomputable def b_take : S :=
  (sSeq (sIf (dB (dEq (dOp oIx (dVar 0) (dC (.int 3))) (dC (.int 1))))
  (sSeq (sSet 2 (dOp oIx (dOp oIx (dVar 0) (dC (.int 0))) (dMod (dCallB cInt (dCons (dOp oIx (dVar 0) (dC (.int 2))) dNil)) (dCallB cLen (dCons (dOp oIx (dVar 0) (dC (.int 0))) dNil)))))
  (sSeq (sAsg (gAt (dVar 0) (dC (.int 1))) (dMod (dCallB cInt (dCons (dAdd (dAdd (dAdd (dMul (dOp oIx (dVar 0) (dC (.int 1))) (dC (.int 48271))) (dMul (dVar 2) (dC (.int 69621)))) (dMul (dOp oIx (dVar 0) (dC (.int 2))) (dC (.int 7919)))) (dC (.int 11))) dNil)) (dC (.int 2147483647))))
  (sSeq (sAsg (gAt (dVar 0) (dC (.int 2))) (dAdd (dOp oIx (dVar 0) (dC (.int 2))) (dC (.int 1))))
  (sRet (dMod (dMod (dCallB cInt (dCons (dAdd (dMul (dOp oIx (dVar 0) (dC (.int 1))) (dC (.int 16807))) (dC (.int 5))) dNil)) (dC (.int 2147483629))) (dVar 1))))))
  sNil)
  (sSeq (sIf (dB (dEq (dOp oIx (dVar 0) (dC (.int 1))) (dC (.int 0))))
  (sSeq (sIf (dB (dGe (dOp oIx (dVar 0) (dC (.int 2))) (dCallB cLen (dCons (dOp oIx (dVar 0) (dC (.int 0))) dNil))))
  (sRet (dC (.int 0)))
  sNil)
  (sSeq (sAsg (gAt (dVar 0) (dC (.int 1))) (dCallB cAbs (dCons (dOp oIx (dOp oIx (dVar 0) (dC (.int 0))) (dOp oIx (dVar 0) (dC (.int 2)))) dNil)))
  (sAsg (gAt (dVar 0) (dC (.int 2))) (dAdd (dOp oIx (dVar 0) (dC (.int 2))) (dC (.int 1))))))
  sNil)
  (sSeq (sSet 3 (dMod (dCallB cInt (dCons (dOp oIx (dVar 0) (dC (.int 1))) dNil)) (dVar 1)))
  (sSeq (sAsg (gAt (dVar 0) (dC (.int 1))) (dDiv (dOp oIx (dVar 0) (dC (.int 1))) (dVar 1)))
  (sRet (dVar 3))))))
noncomputable def m_take : List W → M W := dBody 2 4 b_take

def stL (ns : List Int) (rest pos mixed : Int) : List W := [.fz (ns.map W.int), .int rest, .int pos, .int mixed, .lst [], .int 0, .int 0, .int 0]
/-- the cell holds a state of the script -/
def StOk (ns : List Int) (st : Store) (n : Nat) : Prop := ∃ rest pos mixed, lcell st n = some (stL ns rest pos mixed) ∧ 0 ≤ rest ∧ 1 ≤ pos ∧ ((mixed = 1 ∧ ns ≠ []) ∨ mixed = 0)
theorem StOk.lt {ns : List Int} {st : Store} {n : Nat} (h : StOk ns st n) : n < st.length := let ⟨_, _, _, h, _⟩ := h; lcell_lt h
section
variable {ns : List Int} {rest pos mixed : Int} {st : Store} {n : Nat}
theorem st_0 (h : lcell st n = some (stL ns rest pos mixed)) : oIx (.cell n) (.int 0) st = .ok (.fz (ns.map W.int)) st := ix_at h (by decide) rfl
theorem st_1 (h : lcell st n = some (stL ns rest pos mixed)) : oIx (.cell n) (.int 1) st = .ok (.int rest) st := ix_at h (by decide) rfl
theorem st_2 (h : lcell st n = some (stL ns rest pos mixed)) : oIx (.cell n) (.int 2) st = .ok (.int pos) st := ix_at h (by decide) rfl
theorem st_3 (h : lcell st n = some (stL ns rest pos mixed)) : oIx (.cell n) (.int 3) st = .ok (.int mixed) st := ix_at h (by decide) rfl
theorem gAt_at {o ix : Env → M W} {w : W} {env : Env} {st st1 st2 : Store} {n j : Nat} {xs : List W} {k : Int} (ho : o env st = .ok (.cell n) st1) (hi : ix env st1 = .ok (.int k) st2) (hl : lcell st2 n = some xs) (hk : ixN xs.length k = some j) :
    gAt o ix w env st = .ok env (st2.set n (.lst (xs.set j w))) := by
  unfold gAt
  rw [ho]
  simp only [Out.bind_ok, hi, hl, hk]
theorem put_1 {env : Env} {r : Int} (h : lcell st n = some (stL ns rest pos mixed)) : gAt (dVar 0) (dC (.int 1)) (.int r) (some (.cell n) :: env) st = .ok (some (.cell n) :: env) (st.set n (.lst (stL ns r pos mixed))) := gAt_at (j := 1) rfl rfl h rfl
theorem put_2 {env : Env} {r : Int} (h : lcell st n = some (stL ns rest pos mixed)) : gAt (dVar 0) (dC (.int 2)) (.int r) (some (.cell n) :: env) st = .ok (some (.cell n) :: env) (st.set n (.lst (stL ns rest r mixed))) := gAt_at (j := 2) rfl rfl h rfl
theorem take_mixed {k : Int} (h : lcell st n = some (stL ns rest pos 1)) (hn : ns ≠ []) (hp : 1 ≤ pos) (hk : 0 < k) :
    ∃ v st', m_take [.cell n, .int k] st = .ok (.int v) st' ∧ 0 ≤ v ∧ v < k ∧ StOk ns st' n ∧ ∃ c, st' = st.set n c := by
  have hl : 0 < ns.length := List.length_pos_iff.mpr hn
  have hj : (pos % (ns.length : Int)).toNat < ns.length := by
    have h1 := Int.emod_nonneg pos (show (ns.length : Int) ≠ 0 by omega)
    have h2 := Int.emod_lt_of_pos pos (show (0 : Int) < ns.length by omega)
    omega
  have hl2 : cLen [.fz (ns.map W.int)] st = .ok (.int ns.length) st := by
    rw [cLen_at (w := .fz (ns.map W.int)) rfl, List.length_map]
  have hc : oIx (.fz (ns.map W.int)) (.int (pos % (ns.length : Int))) st = .ok (.int (ns[(pos % (ns.length : Int)).toNat]'hj)) st := by
    refine ix_at (xs := ns.map W.int) rfl (Int.emod_nonneg _ (by omega)) ?_
    rw [List.getElem?_map, List.getElem?_eq_getElem hj]
    rfl
  have lt := lcell_lt h
  have lt2 : ∀ c, n < (st.set n c).length := fun c => by rw [List.length_set]; exact lt
  have h4 : ∀ r p m, lcell (st.set n (.lst (stL ns r p m))) n = some (stL ns r p m) := fun r p m => lcell_set lt
  have hl' : (0 : Int) < ns.length := by omega
  generalize hcell : ns[(pos % (ns.length : Int)).toNat]'hj = cell at hc
  have e : m_take [.cell n, .int k] st = .ok (.int (((rest * 48271 + cell * 69621 + pos * 7919 + 11) % 2147483647 * 16807 + 5) % 2147483629 % k))
      ((st.set n (.lst (stL ns ((rest * 48271 + cell * 69621 + pos * 7919 + 11) % 2147483647) pos 1))).set n (.lst (stL ns ((rest * 48271 + cell * 69621 + pos * 7919 + 11) % 2147483647) (pos + 1) 1))) := by
    simp [m_take, dBody, b_take, sSeq, sIf, dB, dOp, st_3 h, sSet, dCallB, dCons, st_0 h, st_2 h, hl2, oIC_at, hl', hc, Out.bindS, sAsg, st_1 h, put_1 h, Out.nox, st_2 (h4 _ _ _), put_2 (h4 _ _ _), sRet, st_1 (h4 _ _ _), hk, hl, hn, cm1, cm2, cm3, cm4, dCallB]
  exact ⟨_, _, e, Int.emod_nonneg _ (by omega), Int.emod_lt_of_pos _ hk, ⟨_, _, _, lcell_set (lt2 _), Int.emod_nonneg _ (by decide), by omega, .inl ⟨rfl, hn⟩⟩, _, List.set_set ..⟩
theorem take_plain {k : Int} (h : lcell st n = some (stL ns rest pos 0)) (hr : 0 ≤ rest) (hp : 1 ≤ pos) (hk : 0 < k) (hk2 : k < 1073741824) :
    ∃ v st', m_take [.cell n, .int k] st = .ok (.int v) st' ∧ 0 ≤ v ∧ v < k ∧ StOk ns st' n ∧ ∃ c, st' = st.set n c := by
  have lt := lcell_lt h
  have lt2 : ∀ c, n < (st.set n c).length := fun c => by rw [List.length_set]; exact lt
  have hl2 : cLen [.fz (ns.map W.int)] st = .ok (.int ns.length) st := by
    rw [cLen_at (w := .fz (ns.map W.int)) rfl, List.length_map]
  have hcd : CDiv rest k := ⟨hk, hk2⟩
  by_cases hz : rest = 0
  · subst hz
    by_cases hpl : (ns.length : Int) ≤ pos
    · have e : m_take [.cell n, .int k] st = .ok (.int 0) st := by
        simp [m_take, dBody, b_take, sSeq, sIf, dB, dOp, st_3 h, dCallB, dCons, st_0 h, st_1 h, st_2 h, hl2, Out.bindS, sRet, hpl, sNil]
      refine ⟨0, st, e, by omega, hk, ⟨_, _, _, h, by omega, hp, .inr rfl⟩, st[n]'lt, ?_⟩
      rw [List.set_getElem_self]
    · have hj : pos.toNat < ns.length := by omega
      have hc : oIx (.fz (ns.map W.int)) (.int pos) st = .ok (.int (ns[pos.toNat]'hj)) st := by
        refine ix_at (xs := ns.map W.int) rfl (by omega) ?_
        rw [List.getElem?_map, List.getElem?_eq_getElem hj]
        rfl
      generalize ns[pos.toNat]'hj = cell at hc
      generalize hb : (if cell < 0 then -cell else cell) = b
      have hb0 : 0 ≤ b := by
        rw [← hb]
        split <;> omega
      have h4 : ∀ r p m, lcell (st.set n (.lst (stL ns r p m))) n = some (stL ns r p m) := fun r p m => lcell_set lt
      have hcd2 : CDiv b k := ⟨hk, hk2⟩
      have e : m_take [.cell n, .int k] st = .ok (.int (b % k)) (((st.set n (.lst (stL ns b pos 0))).set n (.lst (stL ns b (pos + 1) 0))).set n (.lst (stL ns (b / k) (pos + 1) 0))) := by
        simp [m_take, dBody, b_take, sSeq, sIf, dB, dOp, st_3 h, dCallB, dCons, st_0 h, st_1 h, st_2 h, hl2, Out.bindS, sRet, hpl, sNil, hc, hb, sAsg, put_1 h, Out.nox, st_2 (h4 _ _ _), put_2 (h4 _ _ _), sSet, st_1 (h4 _ _ _), oIC_at, hk, hcd2, put_1 (h4 _ _ _)]
      refine ⟨_, _, e, Int.emod_nonneg _ (by omega), Int.emod_lt_of_pos _ hk, ⟨_, _, _, lcell_set (by simp only [List.length_set]; exact lt), Int.ediv_nonneg hb0 (by omega), by omega, .inr rfl⟩, .lst (stL ns (b / k) (pos + 1) 0), ?_⟩
      rw [List.set_set, List.set_set]
  · have e : m_take [.cell n, .int k] st = .ok (.int (rest % k)) (st.set n (.lst (stL ns (rest / k) pos 0))) := by
      simp [m_take, dBody, b_take, sSeq, sIf, dB, dOp, st_3 h, dCallB, dCons, st_1 h, Out.bindS, sRet, sNil, hz, sAsg, put_1 h, Out.nox, sSet, oIC_at, hk, hcd]
    exact ⟨_, _, e, Int.emod_nonneg _ (by omega), Int.emod_lt_of_pos _ hk, ⟨_, _, _, lcell_set lt, Int.ediv_nonneg hr (by omega), hp, .inr rfl⟩, _, rfl⟩
/-- a draw -/
theorem take_ok {k : Int} (h : StOk ns st n) (hk : 0 < k) (hk2 : k < 1073741824) : ∃ v st', m_take [.cell n, .int k] st = .ok (.int v) st' ∧ 0 ≤ v ∧ v < k ∧ StOk ns st' n ∧ ∃ c, st' = st.set n c := by
  obtain ⟨rest, pos, mixed, h, hr, hp, hm⟩ := h
  rcases hm with ⟨rfl, hn⟩ | rfl
  · exact take_mixed h hn hp hk
  · exact take_plain h hr hp hk hk2
/-- the state, made -/
theorem state_ok (ns : List Int) (st : Store) : ∃ c, m_state [.fz (ns.map W.int)] st = .ok (.cell st.length) (st ++ [c]) ∧ StOk ns (st ++ [c]) st.length := by
  have hl2 : cLen [.fz (ns.map W.int)] st = .ok (.int ns.length) st := by
    rw [cLen_at (w := .fz (ns.map W.int)) rfl, List.length_map]
  cases ns with
  | nil =>
    refine ⟨.lst (stL [] 0 1 0), ?_, _, _, _, lcell_new (r := []), by omega, by omega, .inr rfl⟩
    have hs : (8 : Nat) ≤ sizeLine := by decide
    simp [m_state, dBody, b_state, sSeq, sIf, dB, dOp, sSet, dCallB, dCons, Out.bindS, sRet, sNil, dCell, dLst, dPure, cLen, hs, stL]
  | cons a ns =>
    have h0 : oIx (.fz ((a :: ns).map W.int)) (.int 0) st = .ok (.int a) st := ix_at rfl (by decide) rfl
    have hs : (8 : Nat) ≤ sizeLine := by decide
    have hs2 : (2 : Nat) ≤ sizeLine := by decide
    generalize hb : (if a < 0 then -a else a) = b
    have hb0 : 0 ≤ b := by
      rw [← hb]
      split <;> omega
    have hm : a % 2 = 0 ∨ a % 2 = 1 := by omega
    have hpos : (0 : Int) < (ns.length : Int) + 1 := by omega
    have hl2 : cLen [.fz (W.int a :: ns.map W.int)] st = .ok (.int ((ns.length : Int) + 1)) st := by
      rw [cLen_at (w := .fz (W.int a :: ns.map W.int)) rfl]
      simp
    have h0 : oIx (.fz (W.int a :: ns.map W.int)) (.int 0) st = .ok (.int a) st := ix_at rfl (by decide) rfl
    have i0 : ∀ x y : W, oIx (.lst [x, y]) (.int 0) st = .ok x st := fun x y => ix_at rfl (by decide) rfl
    have i1 : ∀ x y : W, oIx (.lst [x, y]) (.int 1) st = .ok y st := fun x y => ix_at rfl (by decide) rfl
    rcases hm with hm | hm
    · refine ⟨.lst (stL (a :: ns) (b / 2) 1 0), ?_, _, _, _, lcell_new (r := []), Int.ediv_nonneg hb0 (by decide), by omega, .inr rfl⟩
      simp [m_state, dBody, b_state, sSeq, sIf, dB, dOp, sSet, dCallB, dCons, Out.bindS, sRet, sNil, dCell, dLst, dPure, hl2, hs, hs2, stL, h0, oIC_at, (show CDiv b 2 from ⟨by decide, by decide⟩), hb, hm, i0, i1, hpos]
    · refine ⟨.lst (stL (a :: ns) 1 1 1), ?_, _, _, _, lcell_new (r := []), by omega, by omega, .inl ⟨rfl, by simp⟩⟩
      simp [m_state, dBody, b_state, sSeq, sIf, dB, dOp, sSet, dCallB, dCons, Out.bindS, sRet, sNil, dCell, dLst, dPure, hl2, hs, hs2, stL, h0, oIC_at, (show CDiv b 2 from ⟨by decide, by decide⟩), hb, hm, i0, i1, hpos]
end
end Sh


set_option maxRecDepth 100000
set_option maxHeartbeats 2000000
namespace Sh
open PySem L2 Evl
variable [Wd]

/-! ### data whose text fits -/
mutual
def okD : W → Bool
  | .non => true
  | .bl _ => true
  | .int i => decide (i.natAbs < 1000000000)
  | .str x => PyData.strOk x
  | .tup xs => okDs xs
  | .lst xs => okDs xs
  | .ftp xs => okDs xs
  | .fz xs => okDs xs
  | .cell _ => false
  | .exn _ _ _ _ => false
  | .xob _ _ _ => false
def okDs : List W → Bool
  | [] => true
  | x :: xs => okD x && okDs xs
end
mutual
def wtD : W → Nat
  | .int _ => 31
  | .str x => x.cps.size
  | .tup xs => wtDs xs
  | .lst xs => wtDs xs
  | .ftp xs => wtDs xs
  | .fz xs => wtDs xs
  | _ => 0
def wtDs : List W → Nat
  | [] => 0
  | x :: xs => wtD x + 1 + wtDs xs
end
mutual
def dpD : W → Nat
  | .tup xs => dpDs xs + 1
  | .lst xs => dpDs xs + 1
  | .ftp xs => dpDs xs + 1
  | .fz xs => dpDs xs + 1
  | _ => 0
def dpDs : List W → Nat
  | [] => 0
  | x :: xs => max (dpD x) (dpDs xs)
end
structure Fit (d : PyData) (w : W) : Prop where
  lay : d.canLay0 = true
  nums : d.intsShort 13 = true
  show_ : d.showable = true
  wt : d.weight ≤ wtD w
  dp : d.depth ≤ dpD w
structure Fits (d : List PyData) (w : List W) : Prop where
  lay : PyData.canLayAll0 d = true
  nums : PyData.intsShortAll 13 d = true
  show_ : PyData.showableAll d = true
  wt : PyData.weightAll d ≤ wtDs w
  dp : PyData.depthAll d ≤ dpDs w
theorem int_short {i : Int} (h : i.natAbs < 1000000000) : (PyData.shown (.int i)).length ≤ 13 := by
  have e := int_text_length_le10 (a := i) (k := 9) (by decide) (by omega)
  show (Str.ofString (toString i)).length ≤ 13
  rw [ofString_length]
  omega
theorem log_le {n k : Nat} (h : n < 2 ^ k) : n.log2 < k ∨ n = 0 := by
  by_cases z : n = 0
  · exact .inr z
  · exact .inl ((Nat.log2_lt z).mpr h)
theorem fit_int {i : Int} (h : i.natAbs < 1000000000) : Fit (.int i) (.int i) := by
  have l := log_le (n := i.natAbs) (k := 30) (by omega)
  refine ⟨rfl, ?_, ?_, ?_, Nat.le_refl _⟩
  · show decide ((PyData.shown (.int i)).length ≤ 13) = true
    exact decide_eq_true (int_short h)
  · show decide (i.natAbs.log2 < 1920) = true
    refine decide_eq_true ?_
    rcases l with l | l
    · omega
    · rw [l]
      decide
  · show (if i == 0 then 0 else i.natAbs.log2 + 1) ≤ 31
    split
    · omega
    · rcases l with l | l
      · omega
      · rw [l]
        decide
mutual
theorem dat_fit : ∀ {w : W}, okD w = true → ∃ d, dat w = some d ∧ Fit d w
  | .non, _ => ⟨_, rfl, rfl, rfl, rfl, Nat.le_refl _, Nat.le_refl _⟩
  | .bl b, _ => ⟨_, rfl, rfl, rfl, rfl, Nat.le_refl _, Nat.le_refl _⟩
  | .int i, h => ⟨_, rfl, fit_int (of_decide_eq_true h)⟩
  | .str x, h => ⟨_, rfl, h, rfl, rfl, Nat.le_refl _, Nat.le_refl _⟩
  | .tup xs, h => by
    obtain ⟨ds, q, f⟩ := dats_fit (ws := xs) h
    exact ⟨.tuple ds, by rw [dat, q]; rfl, f.lay, f.nums, f.show_, f.wt, Nat.succ_le_succ f.dp⟩
  | .ftp xs, h => by
    obtain ⟨ds, q, f⟩ := dats_fit (ws := xs) h
    exact ⟨.tuple ds, by rw [dat, q]; rfl, f.lay, f.nums, f.show_, f.wt, Nat.succ_le_succ f.dp⟩
  | .lst xs, h => by
    obtain ⟨ds, q, f⟩ := dats_fit (ws := xs) h
    exact ⟨.list ds, by rw [dat, q]; rfl, f.lay, f.nums, f.show_, f.wt, Nat.succ_le_succ f.dp⟩
  | .fz xs, h => by
    obtain ⟨ds, q, f⟩ := dats_fit (ws := xs) h
    exact ⟨.list ds, by rw [dat, q]; rfl, f.lay, f.nums, f.show_, f.wt, Nat.succ_le_succ f.dp⟩
  | .cell n, h => absurd h Bool.false_ne_true
  | .exn _ _ _ _, h => absurd h Bool.false_ne_true
  | .xob _ _ _, h => absurd h Bool.false_ne_true
theorem dats_fit : ∀ {ws : List W}, okDs ws = true → ∃ ds, dats ws = some ds ∧ Fits ds ws
  | [], _ => ⟨_, rfl, rfl, rfl, rfl, Nat.le_refl _, Nat.le_refl _⟩
  | x :: xs, h => by
    have h : (okD x && okDs xs) = true := h
    rw [Bool.and_eq_true] at h
    obtain ⟨d, q, f⟩ := dat_fit (w := x) h.1
    obtain ⟨ds, q2, f2⟩ := dats_fit (ws := xs) h.2
    refine ⟨d :: ds, by rw [dats, q, q2]; rfl, ?_, ?_, ?_, ?_, ?_⟩
    · show (d.canLay0 && PyData.canLayAll0 ds) = true
      rw [f.lay, f2.lay]; rfl
    · show (d.intsShort 13 && PyData.intsShortAll 13 ds) = true
      rw [f.nums, f2.nums]; rfl
    · show (d.showable && PyData.showableAll ds) = true
      rw [f.show_, f2.show_]; rfl
    · show d.weight + 1 + PyData.weightAll ds ≤ wtD x + 1 + wtDs xs
      have a := f.wt
      have b := f2.wt
      omega
    · show max d.depth (PyData.depthAll ds) ≤ max (dpD x) (dpDs xs)
      have a := f.dp
      have b := f2.dp
      omega
end
theorem shown_line {d : PyData} {w : W} (f : Fit d w) (h : wtD w ≤ 2 ^ 20) (h2 : dpD w ≤ 60) : d.shown.length ≤ sizeLine := by
  have a := f.wt
  have b := f.dp
  have l : PyData.layable0 d = true := by
    show (d.canLay0 && decide (d.depth ≤ 64) && decide (d.weight ≤ 2 ^ 20)) = true
    rw [f.lay, decide_eq_true (show d.depth ≤ 64 by omega), decide_eq_true (show d.weight ≤ 2 ^ 20 by omega)]
    rfl
  have := PyProof.Rows.shown_le13 l f.nums
  rw [sizeLine_eq]
  omega
/-- what repr says of it -/
def shownW (w : W) : Str := match dat w with
  | some d => d.shown
  | none => ""
theorem repr_at {w : W} (st : Store) (h : okD w = true) (hw : wtD w ≤ 2 ^ 20) (hd : dpD w ≤ 60) (hs : (match w with | .lst _ => true | .tup _ => true | _ => false) = true) : cRepr [w] st = .ok (.str (shownW w)) st := by
  obtain ⟨d, q, f⟩ := dat_fit h
  have b := f.dp
  have key : PyProof.Rows.isDisplay d = true ∧ d.showable = true ∧ d.depth ≤ 60 ∧ d.shown.length ≤ sizeLine := by
    refine ⟨?_, f.show_, by omega, shown_line f hw hd⟩
    cases w <;> first
      | (exact absurd hs Bool.false_ne_true)
      | (unfold dat at q; rename_i xs; cases q2 : dats xs with | none => rw [q2] at q; cases q | some ds => rw [q2] at q; cases q; rfl)
  have e : shownW w = d.shown := by
    unfold shownW
    rw [q]
  rw [e]
  cases w with
  | lst xs =>
    have q' : datC (.lst xs) st = some d := q
    unfold cRepr
    simp only [q', key, and_self, if_true]
  | tup xs =>
    have q' : datC (.tup xs) st = some d := q
    unfold cRepr
    simp only [q', key, and_self, if_true]
  | _ => exact absurd hs Bool.false_ne_true
/-! ### data compared -/
theorem deep_of {x y : W} {d e : PyData} {st : Store} (h1 : dat x = some d) (h2 : dat y = some e) (f1 : Fit d x) (f2 : Fit e y) (p1 : dpD x ≤ 60) (p2 : dpD y ≤ 60) (hx : (match x with | .cell _ => false | _ => true) = true) (hy : (match y with | .cell _ => false | _ => true) = true) : eqDeep x y st = some (PyData.eqv d e) := by
  have a := f1.dp
  have b := f2.dp
  have s1 : SeqAt.shaped d = true := by
    show (d.canLay0 && decide (d.depth ≤ 64)) = true
    rw [f1.lay, decide_eq_true (show d.depth ≤ 64 by omega)]
    rfl
  have s2 : SeqAt.shaped e = true := by
    show (e.canLay0 && decide (e.depth ≤ 64)) = true
    rw [f2.lay, decide_eq_true (show e.depth ≤ 64 by omega)]
    rfl
  have c1 : datC x st = some d := by
    cases x <;> first | exact h1 | exact absurd hx Bool.false_ne_true
  have c2 : datC y st = some e := by
    cases y <;> first | exact h2 | exact absurd hy Bool.false_ne_true
  unfold eqDeep
  simp only [c1, c2, s1, s2, and_self, if_true]
mutual
theorem eqv_self : ∀ d : PyData, d.canLay0 = true → PyData.eqv d d = true
  | .none, _ => rfl
  | .bool b, _ => by simp [PyData.eqv]
  | .int i, _ => by simp [PyData.eqv]
  | .str x, _ => by simp [PyData.eqv]
  | .list xs, h => eqvs_self xs h
  | .tuple xs, h => eqvs_self xs h
  | .dict _, h => absurd h Bool.false_ne_true
theorem eqvs_self : ∀ ds : List PyData, PyData.canLayAll0 ds = true → PyData.eqvAll ds ds = true
  | [], _ => rfl
  | x :: xs, h => by
    have h : (x.canLay0 && PyData.canLayAll0 xs) = true := h
    rw [Bool.and_eq_true] at h
    show (PyData.eqv x x && PyData.eqvAll xs xs) = true
    rw [eqv_self x h.1, eqvs_self xs h.2]
    rfl
end
/-- a list is itself -/
theorem eq_self_lst {xs : List W} (st : Store) (h : okDs xs = true) (hd : dpDs xs ≤ 59) : oEq (.lst xs) (.lst xs) st = .ok (.bl true) st := by
  obtain ⟨d, q, f⟩ := dat_fit (w := .lst xs) h
  have e := deep_of (st := st) q q f f (show dpDs xs + 1 ≤ 60 by omega) (show dpDs xs + 1 ≤ 60 by omega) rfl rfl
  rw [eqv_self d f.lay] at e
  unfold oEq eqAny
  simp only [scalW, e]
end Sh


set_option maxRecDepth 100000
set_option maxHeartbeats 2000000
namespace Sh
open PySem L2 Evl
variable [Wd]

/-! ### one step at a time -/
section
variable {env env1 : Env} {st st1 st2 st3 : Store} {w x y : W} {ws xs : List W} {a b d da db : Env → M W} {ds : Env → M (List W)} {dF eF : Env → M (List W)}
theorem rCons (h : d env st = .ok w st1) (k : ds env st1 = .ok ws st2) : dCons d ds env st = .ok (w :: ws) st2 := by
  unfold dCons
  rw [h, Out.bind_ok, k, Out.bind_ok]
theorem rNil : dNil env st = .ok [] st := rfl
theorem rC : dC w env st = .ok w st := rfl
theorem rV {i : Nat} (h : env[i]? = some (some w)) : dVar i env st = .ok w st := by
  unfold dVar
  rw [h]
theorem rCallB {f : List W → M W} {o : Out W} (h : ds env st = .ok ws st1) (k : f ws st1 = o) : dCallB f ds env st = o := by
  unfold dCallB
  rw [h, Out.bind_ok, k]
theorem rCall {f : List W → M W} (h : ds env st = .ok ws st1) (k : f ws st1 = .ok w st2) : dCall f ds env st = .ok w st2 := by
  unfold dCall
  rw [h, Out.bind_ok, k]
  rfl
theorem rCallF {f : List W → M (List W)} (h : ds env st = .ok ws st1) (k : f ws st1 = .ok xs st2) : dCallF f ds env st = .ok xs st2 := by
  unfold dCallF
  rw [h, Out.bind_ok, k]
theorem rOp {f : W → W → M W} {o : Out W} (h : da env st = .ok x st1) (k : db env st1 = .ok y st2) (j : f x y st2 = o) : dOp f da db env st = o := by
  unfold dOp
  rw [h, Out.bind_ok, k, Out.bind_ok, j]
theorem rOpF {f : W → W → M (List W)} (h : da env st = .ok x st1) (k : db env st1 = .ok y st2) (j : f x y st2 = .ok xs st3) : dOpF f da db env st = .ok xs st3 := by
  unfold dOpF
  rw [h, Out.bind_ok, k, Out.bind_ok, j]
theorem rPure (h : dF env st = .ok xs st1) : dPure dF env st = .ok (.lst xs) st1 := by
  unfold dPure
  rw [h, Out.bind_ok]
theorem rCell (h : dF env st = .ok xs st1) : dCell dF env st = .ok (.cell st1.length) (st1 ++ [.lst xs]) := by
  unfold dCell
  rw [h, Out.bind_ok]
theorem rLst (h : ds env st = .ok ws st1) (l : ws.length ≤ sizeLine) : dLst ds env st = .ok ws st1 := by
  unfold dLst
  rw [h, Out.bind_ok, if_pos l]
theorem rTup (h : ds env st = .ok ws st1) (l : ws.length ≤ sizeLine) : dTup ds env st = .ok (.tup ws) st1 := by
  unfold dTup
  rw [h, Out.bind_ok, if_pos l]
theorem rListR {n : Nat} (h : d env st = .ok (.int (n : Int)) st1) (s : sm (n : Int)) (l : n ≤ 2 ^ 24) : dListR d env st = .ok (rngW 0 n) st1 := by
  unfold dListR
  rw [h, Out.bind_ok]
  have l : (n : Int).toNat ≤ 2 ^ 24 := by rw [Int.toNat_natCast]; exact l
  exact (if_pos ⟨s, l⟩).trans (by rw [Int.toNat_natCast])
theorem rR1 {n : Nat} (h : ds env st = .ok [.int (n : Int)] st1) (s : sm (n : Int)) : iR1 ds env st = .ok ⟨rngW 0 n, fun _ => True⟩ st1 := by
  unfold iR1
  rw [h, Out.bind_ok]
  exact (if_pos s).trans (by rw [Int.toNat_natCast])
theorem rR2 {i j : Int} (h : ds env st = .ok [.int i, .int j] st1) (s : sm i) (t : sm j) : iR2 ds env st = .ok ⟨rngW i (j - i).toNat, fun _ => True⟩ st1 := by
  unfold iR2
  rw [h, Out.bind_ok]
  exact if_pos ⟨s, t⟩
theorem rFor {it : Env → M It'} {i : It'} {g : T} {body : S} {o : SOut} (h : it env st = .ok i st1) (k : forGo i.ok g body i.xs env st1 = o) : sFor it g body env st = o := by
  unfold sFor
  rw [h, Out.bindS_ok, k]
theorem rB {c : Bool} (h : d env st = .ok (.bl c) st1) : dB d env st = .ok c st1 := by
  unfold dB
  rw [h, Out.bind_ok]
  rfl
theorem rNot {t : Env → M Bool} {c : Bool} (h : t env st = .ok c st1) : dNot t env st = .ok (!c) st1 := by
  unfold dNot
  rw [h, Out.bind_ok]
theorem rOrF {t u : Env → M Bool} {c : Bool} (h : t env st = .ok false st1) (k : u env st1 = .ok c st2) : dOr t u env st = .ok c st2 := by
  unfold dOr
  rw [h, Out.bind_ok]
  exact k
theorem rOrT {t u : Env → M Bool} (h : t env st = .ok true st1) : dOr t u env st = .ok true st1 := by
  unfold dOr
  rw [h, Out.bind_ok]
  rfl
theorem rAndT {t u : Env → M Bool} {c : Bool} (h : t env st = .ok true st1) (k : u env st1 = .ok c st2) : dAnd t u env st = .ok c st2 := by
  unfold dAnd
  rw [h, Out.bind_ok]
  exact k
theorem rAndF {t u : Env → M Bool} (h : t env st = .ok false st1) : dAnd t u env st = .ok false st1 := by
  unfold dAnd
  rw [h, Out.bind_ok]
  rfl
theorem rAndVT {o : Out W} (h : da env st = .ok (.bl true) st1) (k : db env st1 = o) : dAndV da db env st = o := by
  unfold dAndV
  rw [h, Out.bind_ok]
  exact k
theorem rOI {g : Int → Int → W} {i j : Int} (h : da env st = .ok (.int i) st1) (k : db env st1 = .ok (.int j) st2) : dOp (oI g) da db env st = .ok (g i j) st2 := rOp h k rfl
theorem rIfT {t : Env → M Bool} {o : Out W} (h : t env st = .ok true st1) (k : da env st1 = o) : dIf t da db env st = o := by
  unfold dIf
  rw [h, Out.bind_ok]
  exact k
theorem rIfF {t : Env → M Bool} {o : Out W} (h : t env st = .ok false st1) (k : db env st1 = o) : dIf t da db env st = o := by
  unfold dIf
  rw [h, Out.bind_ok]
  exact k
theorem rBM {ty : W → Store → Bool} {f : W → List W → M W} {o : Out W} (h : d env st = .ok x st1) (t : ty x st1 = true) (k : ds env st1 = .ok ws st2) (j : f x ws st2 = o) : dBM ty f d ds env st = o := by
  unfold dBM
  rw [h, Out.bind_ok, if_pos t, k, Out.bind_ok, j]
theorem rSome {i : Int} (h : d env st = .ok (.int i) st1) : oSome d env st = .ok (some i) st1 := by
  unfold oSome
  rw [h, Out.bind_ok]
theorem rSl {lo hi : Env → M (Option Int)} {l h : Option Int} (k : d env st = .ok w st) (k1 : lo env st = .ok l st) (k2 : hi env st = .ok h st) (v : lview w st = some xs) : dSl d lo hi env st = .ok (cutW xs l h) st := by
  unfold dSl
  rw [k, Out.bind_ok, k1, Out.bind_ok, k2, Out.bind_ok, v]
theorem rList (h : d env st = .ok (.lst xs) st1) : iL d env st = .ok ⟨xs, fun _ => True⟩ st1 := by
  unfold iL
  rw [h, Out.bind_ok]
theorem tyL_lst : tyL (.lst xs) st = true := rfl
theorem tyL_cell {n : Nat} (h : lcell st n = some xs) : tyL (.cell n) st = true := by
  unfold tyL
  rw [lview_cell, h]
  rfl
/-! statements -/
theorem sDrop_at (h : d env st = .ok w st1) : sDrop d env st = .nx env st1 := by
  unfold sDrop
  rw [h]
  rfl
theorem sAsg_at {g : T} (h : d env st = .ok w st1) (k : g w env st1 = .ok env1 st2) : sAsg g d env st = .nx env1 st2 := by
  unfold sAsg
  rw [h, Out.bindS_ok, k]
  rfl
theorem sSeq_at {s t : S} {o : SOut} (h : s env st = .nx env1 st1) (k : t env1 st1 = o) : sSeq s t env st = o := by
  unfold sSeq
  rw [h]
  exact k
theorem sSeq_rt {s t : S} (h : s env st = .rt w st1) : sSeq s t env st = .rt w st1 := by
  unfold sSeq
  rw [h]
  rfl
theorem sSet_at {i : Nat} (h : d env st = .ok w st1) : sSet i d env st = .nx (env.set i (some w)) st1 := by
  unfold sSet
  rw [h]
  rfl
theorem sIf_t {t : Env → M Bool} {s u : S} {o : SOut} (h : t env st = .ok true st1) (k : s env st1 = o) : sIf t s u env st = o := by
  unfold sIf
  rw [h, Out.bindS_ok]
  exact k
theorem sIf_f {t : Env → M Bool} {s u : S} {o : SOut} (h : t env st = .ok false st1) (k : u env st1 = o) : sIf t s u env st = o := by
  unfold sIf
  rw [h, Out.bindS_ok]
  exact k
theorem sNil_at : sNil env st = .nx env st := rfl
theorem sRet_at (h : d env st = .ok w st1) : sRet d env st = .rt w st1 := by
  unfold sRet
  rw [h]
  rfl
theorem body_rt {n tot : Nat} {s : S} (hl : ws.length = n) (h : s (ws.map some ++ List.replicate (tot - n) none) st = .rt w st1) : dBody n tot s ws st = .ok w st1 := by
  unfold dBody
  rw [if_pos hl, h]
theorem line_ge {k : Nat} (h : k ≤ 1024) : k ≤ sizeLine := Nat.le_trans h (by decide)
theorem sm_lit {i : Int} (h : -4611686018427387904 ≤ i) (h2 : i < 4611686018427387904) : sm i := ⟨h, h2⟩
theorem sm_nat {c : Nat} (h : c ≤ 1000000) : sm (c : Int) := sm_lit (by omega) (by omega)
theorem n24 {c : Nat} (h : c ≤ 1000000) : c ≤ 2 ^ 24 := Nat.le_trans h (by decide)
theorem p63 {i : Int} (h : -9223372036854775808 ≤ i) (h2 : i < 9223372036854775808) : -(2 ^ 63) ≤ i ∧ i < 2 ^ 63 := ⟨h, h2⟩
theorem forGo_nx {ok : Store → Prop} {g : T} {body : S} {env2 : Env} (k : ok st) (h : g w env st = .ok env1 st1) (hb : body env1 st1 = .nx env2 st2) : forGo ok g body (w :: ws) env st = forGo ok g body ws env2 st2 := by
  rw [forGo, if_pos k, h]
  simp only [hb]
theorem forGo_ct {ok : Store → Prop} {g : T} {body : S} {env2 : Env} (k : ok st) (h : g w env st = .ok env1 st1) (hb : body env1 st1 = .ct env2 st2) : forGo ok g body (w :: ws) env st = forGo ok g body ws env2 st2 := by
  rw [forGo, if_pos k, h]
  simp only [hb]
theorem forGo_nil {ok : Store → Prop} {g : T} {body : S} (k : ok st) : forGo ok g body [] env st = .nx env st := by
  rw [forGo, if_pos k]
theorem rLc {it : Env → M It'} {i : It'} {g : T} {tt : Env → M Bool} {te : Env → M W} {vs : List Nat} {o : Out (List W)} (h : it env st = .ok i st1) (k : lcGo i.ok g tt te (wipeW env vs) i.xs [] st1 = o) : dLc it g tt te vs env st = o := by
  unfold dLc
  rw [h, Out.bind_ok, k]
theorem oRep_at {n : Nat} (h : lviewT x st = some xs) (l : xs.length * n ≤ sizeLine) (z : n ≤ 1000000) : oRep x (.int (n : Int)) st = .ok (List.replicate n xs).flatten st := by
  have p := p63 (i := (n : Int)) (by omega) (by omega)
  have q : xs.length * (n : Int).toNat ≤ sizeLine := by
    rw [Int.toNat_natCast]
    exact l
  unfold oRep
  rw [h]
  refine (if_pos ⟨p.1, p.2, q⟩).trans ?_
  rw [Int.toNat_natCast]
end
end Sh


set_option maxRecDepth 100000
set_option maxHeartbeats 2000000
namespace Sh
open PySem L2 Evl
variable [Wd]

/-! ### defs that errors may leave -/
def spX (K : PySem.W.Frag) (mg : MG) (f : List W → M W) : Sp := fun vs H Q E => ∃ F G m ws st, Sim K mg F G m st H ∧ RWs K G m ws vs ∧ Post RW K mg E F G m (f ws st) Q
/-- errors leave the def as they are -/
abbrev wE (E : XK) : WX := fun cls d _ H => E cls d H
section
variable {P : Program} {w : World} {K : PySem.W.Frag} {mg : MG} {base : Heap} {x qual : Str} {st : Stmt} {f : Addr} {fd : FuncData} {N ps : List Str} {k : Nat}
theorem body_okX {X : Cx} {E : XK} {s : S} {ss : List Stmt} {vs : List V} {H : Hp} {Q : VK} (hK : X.K = K) (hm : X.mg = mg) (hb : JSs X E ss s) (hN : ps.length ≤ N.length)
    (h : spX K mg (dBody ps.length N.length s) vs H Q E) : ∃ t, PSs X ss t ∧ t { nx := fun _ H' => Q .non H', rt := Q } (L2.start N vs) H := by
  subst hK hm
  refine ⟨_, hb, ?_⟩
  obtain ⟨F, G, m, ws, st, S, r, P⟩ := h
  unfold dBody at P
  split at P
  · rename_i hl
    refine ⟨F, G, m, ws.map some ++ List.replicate (N.length - ws.length) none, st, S, start_env r, ?_⟩
    rw [hl]
    cases q : s (ws.map some ++ List.replicate (N.length - ps.length) none) st with
    | stuck => rw [q] at P; exact P
    | bk env st => rw [q] at P; exact P.elim
    | ct env st => rw [q] at P; exact P.elim
    | exc x st => rw [q] at P; exact P
    | rt w st => rw [q] at P; exact P
    | nx env st =>
      rw [q] at P
      exact fun G1 m1 σ1 H1 e1 S1 R1 => P G1 m1 .non H1 e1 S1 .non
  · exact P.elim
theorem spX_len {s : S} {n tot : Nat} {vs : List V} {H : Hp} {Q : VK} {E : XK} (h : spX K mg (dBody n tot s) vs H Q E) : vs.length = n := by
  obtain ⟨F, G, m, ws, st, S, r, P⟩ := h
  unfold dBody at P
  split at P
  · rename_i hl
    rw [← r.length]
    exact hl
  · exact P.elim
/-- a def of the text that errors may leave -/
def HasX (P : Program) (w : World) (K : PySem.W.Frag) (mg : MG) (base : Heap) (k : Nat) (x : Str) (ps : List Str) (m : List W → M W) : Prop :=
  ∃ f fd, mg x = some (.ref f) ∧ PySem.W.keepIn K (.ref f) = true ∧ Binds K fd ps [] ∧ FnOk P w K mg base (CX P w) k f fd ps (spX K mg m)
theorem hasX_mk {s : S} (F : Fun K x x st f fd) (g : mg x = some (.ref f)) (b : Binds K fd ps []) (hS : FnScope N ps (defScope st)) (hN : ps.length ≤ N.length)
    (hb : ∀ (cdv : Value) (A : Around) (outer : List PySem.Env) (sh : Shared) (H : Hp) (E : XK), Room k (A.deeper (PyProof.Rows.envOfC x (defScope st) sh.heap.objs.size f cdv)) →
      Takes (cxOf (CX P w) P w K mg base N x (defScope st) f cdv A outer sh H E) (wE E) → JSs (cxOf (CX P w) P w K mg base N x (defScope st) f cdv A outer sh H E) E (defBody st) s) :
    HasX P w K mg base (k + 1) x ps (dBody ps.length N.length s) :=
  ⟨f, fd, g, F.kp, b, F.okX hS (fun vs H Q E h => spX_len h) fun cdv A outer sh H vs Q E hr h => body_okX rfl rfl (hb cdv A outer sh H E hr (takes_of rfl rfl rfl rfl)) hN h⟩
end
section
variable {X : Cx} {E : XK} {W0 : WX} {a e : Expr} {es : List Expr} {ds : Env → M (List W)} {p pos : Pos} {k j : Nat} {ps : List Str} {x : Str} {m : List W → M W}
/-- as JE, where what is raised is wished for at the slots as they stand -/
abbrev JEp (X : Cx) (W0 : WX) (e : Expr) (d : Env → M W) : Prop := PE X e fun σ H Q => tE X.K X.mg (fun cls d H' => W0 cls d σ H') d σ H Q
abbrev JAp (X : Cx) (W0 : WX) (es : List Expr) (ds : Env → M (List W)) : Prop := PA X es fun σ H Q => tA X.K X.mg (fun cls d H' => W0 cls d σ H') ds σ H Q
theorem jep_of {d : Env → M W} (h : ∀ E, JE X E e d) : JEp X W0 e d := ⟨fun pins s σ H Q I t => (h _).run pins s σ H Q I t⟩
theorem jap_of {ds : Env → M (List W)} (h : ∀ E, JA X E es ds) : JAp X W0 es ds := ⟨fun pl pins s σ H Q I t => (h _).run pl pins s σ H Q I t⟩
theorem jep_defX (h : HasX X.prog X.w X.K X.mg X.base k x ps m) (hr : Room j X.A) (tk : Takes X W0) (ha : JAp X W0 (e :: es) ds) (hj : k ≤ j := by decide) (hg : Gl X x := by rfl) (hdb : (x == ("__debug__" : Str)) = false := by decide) (he : starEach (e :: es) X.env = (false, eval e X.env) :: starEach es X.env := by rfl)
    (hpl : (backTo pos (starEach es X.env)).any (·.1) = false := by rfl) : JEp X W0 (.Call (.Name x p) (e :: es) [] pos) (dCallB m ds) := by
  obtain ⟨f, fd, h1, h2, h3, h4⟩ := h
  refine weakE (pe_callS h4 (hr.mono hj) hg h1 h2 h3 (fun σ => passAt tk σ) ha hdb he hpl) ?_
  rintro σ H Q ⟨F, G, mm, env, st, S, R, P⟩
  exact ⟨F, G, mm, env, st, S, R, (P.bind (R := RA)).imp fun vs H1 ⟨G1, m1, ws, st1, e1, S1, r1, P1⟩ => ⟨F, G1, m1, ws, st1, S1, r1, P1⟩⟩
theorem je_defX (h : HasX X.prog X.w X.K X.mg X.base k x ps m) (hr : Room j X.A) (tk : Takes X (wE E)) (ha : JA X E (e :: es) ds) (hj : k ≤ j := by decide) (hg : Gl X x := by rfl) (hdb : (x == ("__debug__" : Str)) = false := by decide) (he : starEach (e :: es) X.env = (false, eval e X.env) :: starEach es X.env := by rfl)
    (hpl : (backTo pos (starEach es X.env)).any (·.1) = false := by rfl) : JE X E (.Call (.Name x p) (e :: es) [] pos) (dCallB m ds) := jep_defX (W0 := wE E) h hr tk ha hj hg hdb he hpl
theorem jep_tup {x1} (h : JAp X W0 es ds) : JEp X W0 (.Tuple es x1 pos) (dTup ds) := by
  refine weakE (pe_tup h) ?_
  rintro σ H Q ⟨F, G, m, env, st, S, R, P⟩
  refine ⟨F, G, m, env, st, S, R, (P.bind (R := RA)).imp fun vs H1 ⟨G1, m1, xs, st1, e1, S1, r1, P1⟩ => ?_⟩
  split at P1
  · rename_i z
    have hl := RWs.length r1
    refine ⟨by rw [← hl]; exact z, fun p hp => ?_⟩
    have hg := fresh_back S1.ex hp
    exact P1.mono (Ext.new hg) |>.ret (S1.newG hp) (.tup upd_same (RWs.mono (Ext.new hg) r1))
  · exact P1.elim
theorem jap_cons {da : Env → M W} (h1 : JEp X W0 a da) (h2 : JAp X W0 es ds) (hs : starEach (a :: es) X.env = (false, eval a X.env) :: starEach es X.env := by rfl) : JAp X W0 (a :: es) (dCons da ds) := by
  refine weakA (pa_cons h1 h2 hs) ?_
  rintro σ H Q ⟨F, G, m, env, st, S, R, P⟩
  refine ⟨F, G, m, env, st, S, R, P.bind.imp fun v1 H1 ⟨G1, m1, x, st1, e1, S1, r1, P1⟩ => ?_⟩
  refine ⟨F, G1, m1, env, st1, S1, R.mono e1, (P1.bind (R := RA)).imp fun v2 H2 ⟨G2, m2, y, st2, e2, S2, r2, P2⟩ => ?_⟩
  exact P2.ret S2 (RWs.cons (r1.mono e2) r2)
end

/-! ### own errors, made and raised -/
/-- what __init__ leaves: a dict of the fields -/
def spI (Cl : Addr) (fs : List Str) : Sp := fun vs H Q _ => ∃ a us, vs = .ref a :: us ∧ us.length = fs.length ∧ H a = some (exo a Cl none) ∧
  ∀ d H2, H d = none → d ≠ a → H2 a = some (exo a Cl (some d)) → H2 d = some (exd d (fs.zip us).reverse) → (∀ b, b ≠ a → b ≠ d → H2 b = H b) → Q .non H2
structure ExCls (P : Program) (w : World) (K : PySem.W.Frag) (mg : MG) (base : Heap) (k : Nat) (x : Str) (fs : List Str) (Cl : Addr) : Prop where
  g : mg x = some (.ref Cl)
  ox : OexC K Cl
  ini : ∃ fI fd, PySem.W.findIn K (.ref Cl) "__init__" = some (some (.ref fI)) ∧ PySem.W.typeIn K (.ref fI) = some (.type "function") ∧ Binds K fd ("self" :: fs) [] ∧ FnOk P w K mg base CX0 k fI fd ("self" :: fs) (spI Cl fs)
theorem rks_zip {K : PySem.W.Frag} {G : Hp} {m : List Addr} : ∀ {fs : List Str} {ws : List W} {vs : List V}, RWs K G m ws vs → RKs K G m (fs.zip ws) (fs.zip vs)
  | [], _, _, _ => .nil
  | _ :: _, _, _, .nil => .nil
  | f :: fs, _, _, .cons h r => .cons h (rks_zip r)
theorem rks_append {κ : Type} {K : PySem.W.Frag} {G : Hp} {m : List Addr} : ∀ {xs ys : List (κ × W)} {vs us : List (κ × V)}, RKs K G m xs vs → RKs K G m ys us → RKs K G m (xs ++ ys) (vs ++ us)
  | _, _, _, _, .nil, s => s
  | _, _, _, _, .cons h r, s => .cons h (rks_append r s)
theorem rks_rev {κ : Type} {K : PySem.W.Frag} {G : Hp} {m : List Addr} : ∀ {xs : List (κ × W)} {vs : List (κ × V)}, RKs K G m xs vs → RKs K G m xs.reverse vs.reverse
  | _, _, .nil => .nil
  | _, _, .cons h r => by
    rw [List.reverse_cons, List.reverse_cons]
    exact rks_append (rks_rev r) (.cons h .nil)
def sRaise (x : Str) (fs : List Str) (ds : Env → M (List W)) : S := fun env st => (ds env st).bindS fun ws st => if ws.length = fs.length ∧ ws.length ≤ 1000 then .exc ⟨x, (fs.zip ws).reverse⟩ st else .stuck
theorem js_raise {X : Cx} {E : XK} {e : Expr} {es : List Expr} {ds : Env → M (List W)} {p pos pos2 : Pos} {k j : Nat} {x : Str} {fs : List Str} {Cl : Addr} (hc : X.calm = true) (T : ExCls X.prog X.w X.K X.mg X.base k x fs Cl) (hr : Room j X.A) (tk : Takes X (wE E)) (ha : JA X E (e :: es) ds) (hj : k + 1 ≤ j := by decide) (hg : Gl X x := by rfl)
    (hdb : (x == ("__debug__" : Str)) = false := by decide) (he : starEach (e :: es) X.env = (false, eval e X.env) :: starEach es X.env := by rfl) (hpl : (backTo pos (starEach es X.env)).any (·.1) = false := by rfl) :
    JS X E (.Raise (some (.Call (.Name x p) (e :: es) [] pos)) none pos2) (sRaise x fs ds) := by
  obtain ⟨g, ox, fI, fd, i1, i2, i3, i4⟩ := T
  refine weakS (ps_raise hc tk (pmk_oex ox i1 i2 i4 (hr.mono hj) i3 .nil (fun _ _ _ _ _ _ _ h => h.elim) hg g ha hdb he hpl)) ?_
  rintro D σ H ⟨F, G, m, env, st, S, R, P⟩
  refine ⟨F, G, m, env, st, S, R, (P.bindS (R := RA)).imp fun vs H1 ⟨G1, m1, ws, st1, e1, S1, r1, P1⟩ => ?_⟩
  split at P1
  · rename_i z
    have hl := r1.length
    refine ⟨by omega, fun a ha => ⟨a, vs ++ [], rfl, by rw [List.append_nil, ← hl]; exact z.1, upd_same, fun d H2 hd hne h2a h2d h2o => ?_⟩⟩
    rw [List.append_nil] at h2d
    have hd1 : H1 d = none := by rw [upd_ne hne] at hd; exact hd
    refine ⟨rfl, d, _, h2a, h2d, hd1, ?_⟩
    have hh : upd (del H2 a) d (.xd (fs.zip vs).reverse) = upd H1 d (.xd (fs.zip vs).reverse) := by
      funext b
      by_cases b1 : b = d
      · rw [b1, upd_same, upd_same]
      · rw [upd_ne b1, upd_ne b1]
        by_cases b2 : b = a
        · rw [b2, del_same, ha]
        · rw [del_ne b2, h2o b b2 b1, upd_ne b2]
    rw [hh]
    have hg1 := fresh_back S1.ex hd1
    exact P1 _ _ _ _ _ (Ext.new hg1) (S1.newG hd1) ⟨Cl, g, rfl, d, _, rfl, upd_same, rks_rev (rks_zip (RWs.mono (Ext.new hg1) r1))⟩
  · exact P1.elim
end Sh


set_option maxRecDepth 100000
set_option maxHeartbeats 2000000
namespace Sh
open PySem L2 Evl
variable [Wd]
section
variable {P : Program} {w : World} {K : PySem.W.Frag} {mg : MG} {base : Heap} {qual : Str} {st : Stmt} {fI : Addr} {fd : FuncData} {x f1 f2 : Str} {Cl : Addr}
theorem exCls2 (g : mg x = some (.ref Cl)) (ox : OexC K Cl) (F : Fun K "__init__" qual st fI fd) (i1 : PySem.W.findIn K (.ref Cl) "__init__" = some (some (.ref fI))) (i2 : PySem.W.typeIn K (.ref fI) = some (.type "function")) (b : Binds K fd ["self", f1, f2] [])
    (hS : FnScope ["self", f1, f2] ["self", f1, f2] (defScope st)) {p1 p2 p3 p4 q1 q2 q3 q4 : Pos} (hB : defBody st = [.Assign [.Attribute (.Name "self" p1) f1 p2] (.Name f1 p3) p4, .Assign [.Attribute (.Name "self" q1) f2 q2] (.Name f2 q3) q4])
    (n1 : PySem.W.findIn K (.ref Cl) f1 = some none) (n2 : PySem.W.findIn K (.ref Cl) f2 = some none)
    (hv : Vis (defScope st) "self" ∧ Vis (defScope st) f1 ∧ Vis (defScope st) f2)
    (d1 : (f1 == ("__debug__" : Str)) = false ∧ (f1 == ("__classdict__" : Str)) = false) (d2 : (f2 == ("__debug__" : Str)) = false ∧ (f2 == ("__classdict__" : Str)) = false) : ExCls P w K mg base 1 x [f1, f2] Cl := by
  refine ⟨g, ox, fI, fd, i1, i2, b, F.ok hS (fun vs H Q E ⟨a, us, e, l, _⟩ => by rw [e, List.length_cons, l]; rfl) fun cdv A outer sh H vs Q E hr h => ?_⟩
  obtain ⟨a, us, rfl, l, ha, hq⟩ := h
  obtain ⟨y1, y2, rfl⟩ : ∃ y1 y2, us = [y1, y2] := by
    match us, l with
    | [y1, y2], _ => exact ⟨y1, y2, rfl⟩
  rw [hB]
  refine ⟨_, pss_cons (ps_ost (pe_var (i := 0) rfl hv.1 (by decide) (by decide)) (pe_var (i := 1) rfl hv.2.1 d1.1 d1.2) (by rfl)) (pss_cons (ps_ost (pe_var (i := 0) rfl hv.1 (by decide) (by decide)) (pe_var (i := 2) rfl hv.2.2 d2.1 d2.2) (by rfl)) pss_nil), ?_⟩
  refine ⟨y1, rfl, .ref a, rfl, a, Cl, rfl, ox, n1, .inl ⟨ha, fun d hd hne => ?_⟩⟩
  refine ⟨y2, rfl, .ref a, rfl, a, Cl, rfl, ox, n2, .inr ⟨d, [(f1, y1)], upd_same, by rw [upd_ne hne, upd_same], (by show 1 ≤ 900; decide), ?_⟩⟩
  exact hq d _ hd hne (by rw [upd_ne (Ne.symm hne), upd_same]) upd_same fun b b1 b2 => by rw [upd_ne b2, upd_ne b1, upd_ne b2]
theorem exCls1 (g : mg x = some (.ref Cl)) (ox : OexC K Cl) (F : Fun K "__init__" qual st fI fd) (i1 : PySem.W.findIn K (.ref Cl) "__init__" = some (some (.ref fI))) (i2 : PySem.W.typeIn K (.ref fI) = some (.type "function")) (b : Binds K fd ["self", f1] [])
    (hS : FnScope ["self", f1] ["self", f1] (defScope st)) {p1 p2 p3 p4 : Pos} (hB : defBody st = [.Assign [.Attribute (.Name "self" p1) f1 p2] (.Name f1 p3) p4])
    (n1 : PySem.W.findIn K (.ref Cl) f1 = some none) (hv : Vis (defScope st) "self" ∧ Vis (defScope st) f1)
    (d1 : (f1 == ("__debug__" : Str)) = false ∧ (f1 == ("__classdict__" : Str)) = false) : ExCls P w K mg base 1 x [f1] Cl := by
  refine ⟨g, ox, fI, fd, i1, i2, b, F.ok hS (fun vs H Q E ⟨a, us, e, l, _⟩ => by rw [e, List.length_cons, l]; rfl) fun cdv A outer sh H vs Q E hr h => ?_⟩
  obtain ⟨a, us, rfl, l, ha, hq⟩ := h
  obtain ⟨y1, rfl⟩ : ∃ y1, us = [y1] := by
    match us, l with
    | [y1], _ => exact ⟨y1, rfl⟩
  rw [hB]
  refine ⟨_, pss_cons (ps_ost (pe_var (i := 0) rfl hv.1 (by decide) (by decide)) (pe_var (i := 1) rfl hv.2 d1.1 d1.2) (by rfl)) pss_nil, ?_⟩
  refine ⟨y1, rfl, .ref a, rfl, a, Cl, rfl, ox, n1, .inl ⟨ha, fun d hd hne => ?_⟩⟩
  exact hq d _ hd hne upd_same (by rw [upd_ne hne, upd_same]; rfl) fun b b1 b2 => by rw [upd_ne b1, upd_ne b2]
end

/-! ### return e within a try, its error caught by its own class -/
def resetS (i : Nat) : SOut → SOut
  | .nx env st => .nx (env.set i none) st
  | .bk env st => .bk (env.set i none) st
  | .ct env st => .ct (env.set i none) st
  | o => o
open Classical in
noncomputable def sTryR (x : Str) (i : Nat) (d : Env → M W) (suite : Addr → Addr → S) : S := fun env st => match d env st with
  | .ok w st => .rt w st
  | .stuck => .stuck
  | .exc e st => if e.cls = x ∧ (∀ a dd, resetS i (suite a dd (env.set i (some (.exn a dd (e.fs.map (·.1)) (e.fs.map (·.2))))) st) = resetS i (suite 0 0 (env.set i (some (.exn 0 0 (e.fs.map (·.1)) (e.fs.map (·.2))))) st)) then
      resetS i (suite 0 0 (env.set i (some (.exn 0 0 (e.fs.map (·.1)) (e.fs.map (·.2))))) st) else .stuck
theorem rks_split {κ : Type} {K : PySem.W.Frag} {G : Hp} {m : List Addr} : ∀ {xs : List (κ × W)} {vs : List (κ × V)}, RKs K G m xs vs → vs = (xs.map (·.1)).zip (vs.map (·.2)) ∧ RWs K G m (xs.map (·.2)) (vs.map (·.2))
  | _, _, .nil => ⟨rfl, .nil⟩
  | _, _, .cons h r => by
    obtain ⟨a, b⟩ := rks_split r
    refine ⟨?_, .cons h b⟩
    rw [List.map_cons, List.map_cons, List.zip_cons_cons, ← a]
theorem REnv.setN {K : PySem.W.Frag} {G : Hp} {m : List Addr} {env : Env} {σ : L2.St} (h : REnv K G m env σ) (i : Nat) : REnv K G m (env.set i none) (σ.set i none) := h.wipe [i]
theorem PostS.reset {K : PySem.W.Frag} {mg : MG} {E : XK} {F G : Hp} {m : List Addr} {o : SOut} {D : Ends} {i : Nat} (h : PostS K mg E F G m (resetS i o) D) :
    PostS K mg E F G m o { nx := fun σ' H' => D.nx (List.set σ' i none) H', rt := D.rt, bk := fun σ' H' => D.bk (List.set σ' i none) H', ct := fun σ' H' => D.ct (List.set σ' i none) H' } := by
  cases o with
  | stuck => exact h
  | nx env st => exact fun G' m' σ' H' e S R => h G' m' _ H' e S (R.setN i)
  | bk env st => exact fun G' m' σ' H' e S R => h G' m' _ H' e S (R.setN i)
  | ct env st => exact fun G' m' σ' H' e S R => h G' m' _ H' e S (R.setN i)
  | rt w st => exact h
  | exc x st => exact h
theorem js_tryR {X : Cx} {E : XK} {e : Expr} {d : Env → M W} {suite : Addr → Addr → S} {n x : Str} {i : Nat} {Cl : Addr} {b0 : Stmt} {bs : List Stmt} {np p1 pos pos' : Pos} (hst : X.stack = X.env :: X.outer) (hf : X.env.frame = some X.env.locals) (hN : X.N.Nodup) (hi : X.N[i]? = some n)
    (hk : X.env.kindOf n = some .local) (hnm : Names X x (.ref Cl)) (hg : X.mg x = some (.ref Cl)) (hex : PySem.W.exmOne X.K (.ref Cl) (.ref Cl) = some true)
    (hb : ∀ (W0 : WX) (pn : List (Addr × Obj)) (xe : Value → Shared → Prop), Takes (X.tr pn xe) W0 → JEp (X.tr pn xe) W0 e d)
    (hs : ∀ (a : Addr) (oe : Obj) (dd : Addr) (pn : List (Addr × Obj)), Zc (.ref Cl) (some dd) oe → (∃ vs, oe.data = .fields vs) → JSs (X.suite a ((a, oe) :: pn)) E (b0 :: bs) (suite a dd)) :
    JS X E (.Try [.Return (some e) p1] [.ExceptHandler (some (.Name x np)) (some n) (b0 :: bs) pos'] [] [] pos) (sTryR x i d suite) := by
  refine weakS (ps_try_as (i := i) (tb := fun W0 => tSeq (tRet fun σ H Q => tE X.K X.mg (fun cls d' H' => W0 cls d' σ H') d σ H Q) tNext) (ts := fun a cls d' => fun D σ H => ∃ dd, (cls = .ref Cl ∧ d' = some dd) ∧ tS X.K X.mg E (suite a dd) D σ H) hst hf hN hi hk hnm takes0
    (fun W0 pn xe tk _ => pss_cons (ps_ret (hb W0 pn xe tk)) pss_nil) fun a oe cls d' pn hz hf => ⟨fun pins s σ H D I ⟨dd, ⟨h1, h2⟩, t⟩ => (hs a oe dd pn (by rw [← h1, ← h2]; exact hz) hf).run pins s σ H D I t⟩) ?_
  rintro D σ H ⟨F, G, m, env, st, S, R, P⟩
  refine ⟨F, G, m, env, st, S, R, ?_⟩
  unfold sTryR at P
  cases q : d env st with
  | stuck => rw [q] at P; exact P
  | ok w st1 => rw [q] at P; exact P
  | exc y st1 =>
    rw [q] at P
    intro G1 m1 H1 cls d' e1 S1 hx
    simp only [] at P
    split at P
    · rename_i z
      obtain ⟨C2, g2, rfl, hfs⟩ := hx
      rw [z.1, hg] at g2
      cases g2
      refine ⟨true, hex, fun _ a ha => ?_, fun h => nomatch h⟩
      obtain ⟨da, vs, rfl, hd, rk⟩ := hfs
      obtain ⟨r1, r2⟩ := rks_split rk
      refine ⟨da, ⟨rfl, rfl⟩, F, G1, m1, env.set i (some (.exn a da (y.fs.map (·.1)) (y.fs.map (·.2)))), st1, S1, (R.mono e1).set (.exn (vs := vs.map (·.2)) (by rw [← r1]; exact hd) r2) i, ?_⟩
      refine PostS.reset ?_
      rw [z.2 a da]
      exact PostS.mono e1 P
    · exact P.elim
/-! ### in the except suite -/
/-- a field of the error -/
def dXf (a dd : Addr) (f : Str) (d : Env → M W) : Env → M W := fun env st => (d env st).bind fun w st => match w with
  | .exn a' dd' ns ws => if a' = a ∧ dd' = dd then (match List.lookup f (ns.zip ws) with
    | some u => .ok u st
    | none => .stuck) else .stuck
  | _ => .stuck
theorem lookup_zip {K : PySem.W.Frag} {G : Hp} {m : List Addr} {f : Str} : ∀ {ns : List Str} {ws : List W} {vs : List V} {u : W}, RWs K G m ws vs → List.lookup f (ns.zip ws) = some u → ∃ v, List.lookup f (ns.zip vs) = some v ∧ RW K G m u v
  | [], _, _, _, _, h => by cases h
  | _ :: _, _, _, _, .nil, h => by cases h
  | n :: ns, w :: ws, v :: vs, u, .cons h r, hl => by
    rw [List.zip_cons_cons, List.lookup_cons] at hl ⊢
    by_cases q : (f == n) = true
    · rw [q] at hl ⊢
      cases hl
      exact ⟨v, rfl, h⟩
    · rw [Bool.not_eq_true] at q
      rw [q] at hl ⊢
      exact lookup_zip r hl
section
variable {X : Cx} {E : XK} {e : Expr} {d : Env → M W} {a dd Cl : Addr} {oe : Obj} {pn : List (Addr × Obj)} {pos p : Pos} {f : Str}
theorem je_xf (T : XfC X.K Cl) (hn : PySem.W.findIn X.K (.ref Cl) f = some none) (hz : Zc (.ref Cl) (some dd) oe) (hf : ∃ vs, oe.data = .fields vs) (he : JE (X.suite a ((a, oe) :: pn)) E e d)
    (hb : attributeBase e f X.env (eval e X.env) = eval e X.env := by rfl) : JE (X.suite a ((a, oe) :: pn)) E (.Attribute e f pos) (dXf a dd f d) := by
  refine weakE (pe_xf T hn hz hf he hb) ?_
  rintro σ H Q ⟨F, G, m, env, st, S, R, P⟩
  refine ⟨F, G, m, env, st, S, R, (P.bind (R := RW)).imp fun v H1 ⟨G1, m1, w, st1, e1, S1, r1, P1⟩ => ?_⟩
  split at P1
  · rename_i a' dd' ns ws
    split at P1
    · rename_i z
      obtain ⟨rfl, rfl⟩ := z
      split at P1
      · rename_i u q
        cases r1 with
        | exn hd rs =>
          obtain ⟨v, h1, h2⟩ := lookup_zip rs q
          exact ⟨rfl, rfl, dd', _, v, rfl, S1.ex _ _ hd, h1, P1.ret S1 h2⟩
      · exact P1.elim
    · exact P1.elim
  · exact P1.elim
/-- isinstance of the error: known beforehand -/
def dXi (a dd : Addr) (b : Bool) (d : Env → M W) : Env → M W := fun env st => (d env st).bind fun w st => match w with
  | .exn a' dd' ns ws => if a' = a ∧ dd' = dd then .ok (.bl b) st else .stuck
  | _ => .stuck
def rIsX (K : PySem.W.Frag) (D a dd : Addr) : List V → Hp → VK → Prop := fun xs H Q => ∃ c cv b fs, xs = [V.ref a, c] ∧ (∀ u : Value, RelV c u → u = cv) ∧ PySem.W.kitOne K (.ref D) cv = some b ∧ H dd = some (.xd fs) ∧ Q (.bl b) H
theorem call_isX (T : L2.ExcC X.K Cl) (hc : (PySem.W.clsIn X.K Cl).isSome = true) (hz : Zc (.ref Cl) (some dd) oe) (hf : ∃ vs, oe.data = .fields vs) : CallR (X.suite a ((a, oe) :: pn)) (.builtin "isinstance") (rIsX X.K Cl a dd) := by
  intro pins s σ H xs us Q I r h
  obtain ⟨c, cv, b, fs, rfl, hcv, hk, hd, q⟩ := h
  cases r with
  | cons r1 r =>
    cases r with
    | cons r2 r =>
      cases r
      rename_i u1 u2
      obtain rfl : u1 = Value.ref a := r1
      obtain rfl := hcv _ r2
      obtain ⟨ha, _⟩ := I.pin (a, oe) (List.mem_append_left _ List.mem_cons_self)
      obtain ⟨vs, hfd⟩ := hf
      have hx : ObjOk X.prog X.w H s.heap dd (.xd fs) := I.hok dd _ hd
      obtain ⟨mA, hns, hr⟩ := hx
      obtain ⟨od, ho, hl⟩ := lookIn_ns hns
      have J : PySem.W.InstAt s.heap a oe Cl (some od) := ⟨ha, hz.1, by unfold PySem.W.notCls; rw [hfd] <;> rfl, by rw [hz.2]; exact ho⟩
      refine PySem.W.kia_one (PySem.W.kitx_exc (od := some od) hc T.hg T.hk T.hs T.ha T.hn T.ht T.hm) I.kIn J hk (by intro z; cases z) fun tk => ?_
      exact ⟨.bl b, H, I.tok _, rfl, q⟩
theorem je_isX {T2 : Str} {cv : Value} {c : V} {b : Bool} {p2 : Pos} (T : L2.ExcC X.K Cl) (hc : (PySem.W.clsIn X.K Cl).isSome = true) (hz : Zc (.ref Cl) (some dd) oe) (hf : ∃ vs, oe.data = .fields vs) (hg : Gl (X.suite a ((a, oe) :: pn)) "isinstance") (hm : X.mg "isinstance" = none)
    (hc2 : PE (X.suite a ((a, oe) :: pn)) (.Name T2 p2) (tC c)) (hcv : ∀ u : Value, RelV c u → u = cv) (hk : PySem.W.kitOne X.K (.ref Cl) cv = some b) (he : JE (X.suite a ((a, oe) :: pn)) E e d)
    (he1 : starEach [e, .Name T2 p2] X.env = (false, eval e X.env) :: starEach [.Name T2 p2] X.env := by rfl) (he2 : starEach [.Name T2 p2] X.env = (false, eval (.Name T2 p2) X.env) :: starEach [] X.env := by rfl)
    (hpl : (backTo pos (starEach [.Name T2 p2] X.env)).any (·.1) = false := by rfl) : JE (X.suite a ((a, oe) :: pn)) E (.Call (.Name "isinstance" p) [e, .Name T2 p2] [] pos) (dXi a dd b d) := by
  refine weakE (pe_callB (call_isX T hc hz hf) hg hm (by decide +kernel) (pa_cons he (pa_cons hc2 pa_nil he2) he1) (by decide) (by decide) he1 hpl) ?_
  rintro σ H Q ⟨F, G, m, env, st, S, R, P⟩
  refine ⟨F, G, m, env, st, S, R, (P.bind (R := RW)).imp fun v H1 ⟨G1, m1, w, st1, e1, S1, r1, P1⟩ => ?_⟩
  split at P1
  · rename_i a' dd' ns ws
    split at P1
    · rename_i z
      obtain ⟨rfl, rfl⟩ := z
      cases r1 with
      | exn hd rs => exact ⟨c, cv, b, _, rfl, hcv, hk, S1.ex _ _ hd, P1.ret S1 (.bl b)⟩
    · exact P1.elim
  · exact P1.elim
end
end Sh


set_option maxRecDepth 100000
set_option maxHeartbeats 2000000
namespace Sh
open PySem L2 Evl
variable [Wd]

/-! ### sum of ints -/
def ints? : List W → Option (List Int)
  | [] => some []
  | .int i :: xs => (ints? xs).map fun r => i :: r
  | _ => none
theorem ints_map : ∀ {xs : List W} {ns : List Int}, ints? xs = some ns → xs = ns.map W.int
  | [], ns, h => by cases h; rfl
  | x :: xs, ns, h => by
    unfold ints? at h
    split at h
    · rename_i q
      cases q
    · rename_i i ys q
      cases q
      cases h2 : ints? xs with
      | none => rw [h2] at h; cases h
      | some r =>
        rw [h2] at h
        cases h
        rw [ints_map h2]
        rfl
    · cases h
theorem ints_at : ∀ ns : List Int, ints? (ns.map W.int) = some ns
  | [] => rfl
  | i :: ns => by
    show (ints? (ns.map W.int)).map _ = _
    rw [ints_at ns]
    rfl
theorem rws_ints {K : PySem.W.Frag} {G : Hp} {m : List Addr} : ∀ {ns : List Int} {vs : List V}, RWs K G m (ns.map W.int) vs → vs = ns.map V.int
  | [], _, .nil => rfl
  | i :: ns, _, .cons h r => by
    cases h
    rw [rws_ints r]
    rfl
def cSum : List W → M W := fun ws st => match ws with
  | [w] => match lview w st with
    | some xs => match ints? xs with
      | some ns => .ok (.int ns.sum) st
      | none => .stuck
    | none => .stuck
  | _ => .stuck
section
variable {K : PySem.W.Frag} {mg : MG} {E : XK}
theorem ok_sum : CallOk K mg E (rSum K) cSum := by
  intro F G m st H ws vs Q S r P
  unfold cSum at P
  split at P
  · cases r with
    | cons h r =>
      cases r
      split at P
      · rename_i xs q
        split at P
        · rename_i ns q2
          obtain ⟨a, us, rfl, h1, h2⟩ := lview_at S h q
          rw [ints_map q2] at h2
          rw [rws_ints h2] at h1
          exact ⟨a, ns, rfl, h1, P.ret S (.int _)⟩
        · exact P.elim
      · exact P.elim
  · exact P.elim
end
section
variable {X : Cx} {E : XK} {a b e : Expr} {es : List Expr} {da db d : Env → M W} {ds : Env → M (List W)} {p pos : Pos} {x : Str}
theorem je_sum (hc : X.calm = true) (hg : Gl X "sum") (hm : X.mg "sum" = none) (ha : JA X E (e :: es) ds) (he : starEach (e :: es) X.env = (false, eval e X.env) :: starEach es X.env := by rfl) (hpl : (backTo pos (starEach es X.env)).any (·.1) = false := by rfl) :
    JE X E (.Call (.Name "sum" p) (e :: es) [] pos) (dCallB cSum ds) := je_callB (cr_sum hc) ok_sum hg hm (by decide +kernel) ha (by decide) (by decide) he hpl
/-! ### a written dict of the module -/
def dTab (tab : List (Str × W)) (d : Env → M W) : Env → M W := fun env st => (d env st).bind fun w st => match w with
  | .str z => match List.lookup z tab with
    | some u => .ok u st
    | none => .stuck
  | _ => .stuck
/-- what the written part says of the dict -/
def TabOk (K : PySem.W.Frag) (w : World) (D : Addr) (tab : List (Str × W)) : Prop := ∀ z u, List.lookup z tab = some u → ∃ v, KDct K w D z v ∧ ∀ G m, RW K G m u v
theorem tab_nil {K : PySem.W.Frag} {w : World} {D : Addr} : TabOk K w D [] := fun z u h => by cases h
theorem tab_int {K : PySem.W.Frag} {w : World} {D : Addr} {es : Array DictEntry} {n : Nat} {k : Str} {i : Int} {u0 : Value} {tab : List (Str × W)} (h1 : K.lookup D = some { cls := .type "dict", data := .dict es n }) (h2 : PySem.W.KeysLit w.params es.toList)
    (h3 : PySem.W.nsIn K D k = some (some u0)) (h4 : ∃ t, u0 = .int i t) (h : TabOk K w D tab) : TabOk K w D ((k, .int i) :: tab) := by
  intro z u hz
  rw [List.lookup_cons] at hz
  by_cases q : (z == k) = true
  · rw [q] at hz
    cases hz
    have e : z = k := by simpa using q
    subst e
    exact ⟨.int i, ⟨es, n, u0, h1, h2, h3, h4⟩, fun G m => .int i⟩
  · rw [Bool.not_eq_true] at q
    rw [q] at hz
    exact h z u hz
theorem kitCls_own {K : PySem.W.Frag} {t : Value} {C : Addr} {b : Bool} (i : PySem.W.isClsIn K C = true) (ty : PySem.W.typeIn K (.ref C) = some (.type "type")) (s : PySem.W.subIn K t (.ref C) = some b) : PySem.W.kitCls K t (.ref C) = some b := by
  have e : ((PySem.W.clsIn K C).isSome && PySem.W.typeIn K (.ref C) == some (.type "type")) = true := by
    rw [show (PySem.W.clsIn K C).isSome = true from i, ty]
    rfl
  exact (if_pos e).trans s
theorem exm_own {K : PySem.W.Frag} {C : Addr} (x : PySem.W.subIn K (.ref C) (.type "BaseException") = some true) (i : PySem.W.isClsIn K C = true) (ty : PySem.W.typeIn K (.ref C) = some (.type "type")) (s : PySem.W.subIn K (.ref C) (.ref C) = some true) : PySem.W.exmOne K (.ref C) (.ref C) = some true := by
  have e : (PySem.W.subIn K (.ref C) (.type "BaseException") == some true) = true := by
    rw [x]
    rfl
  exact (if_pos e).trans (kitCls_own i ty s)
theorem kit_true {K : PySem.W.Frag} {t c : Value} (h : PySem.W.kitCls K t c = some true) : PySem.W.kitOne K t c = some true := by
  unfold PySem.W.kitOne
  split
  · rfl
  · exact h
theorem kit_own {K : PySem.W.Frag} {t : Value} {C : Addr} (i : PySem.W.isClsIn K C = true) (ty : PySem.W.typeIn K (.ref C) = some (.type "type")) (s : PySem.W.subIn K t (.ref C) = some true) : PySem.W.kitOne K t (.ref C) = some true := kit_true (kitCls_own i ty s)
theorem kit_bi {K : PySem.W.Frag} {t : Value} {T : String} (m : PySem.W.kitMeta T = true) (s : PySem.W.subIn K t (.type T) = some true) : PySem.W.kitOne K t (.type T) = some true := kit_true ((if_pos m).trans s)
def clsBody : Stmt → List Stmt
  | .ClassDef _ _ _ b _ _ _ _ _ _ _ => b
  | _ => []
theorem je_tab {D : Addr} {tab : List (Str × W)} (hg : Gl X x) (hm : X.mg x = some (.ref D)) (ht : TabOk X.K X.w D tab) (hb : JE X E b db) (hs : PlainIx b := by exact fun _ _ => rfl) (hdb : (x == ("__debug__" : Str)) = false := by decide) :
    JE X E (.Subscript (.Name x p) b pos) (dTab tab db) := by
  refine weakE (pe_ix ix_kdict (pe_glob (v := .ref D) hg hm rfl hdb) hb hs) ?_
  rintro σ H Q ⟨F, G, m, env, st, S, R, P⟩
  refine ⟨F, G, m, env, st, S, R, (P.bind (R := RW)).imp fun v H1 ⟨G1, m1, w, st1, e1, S1, r1, P1⟩ => ?_⟩
  split at P1
  · rename_i z
    split at P1
    · rename_i u q
      obtain ⟨v, k, r⟩ := ht z u q
      cases r1
      exact ⟨D, z, v, rfl, rfl, k, P1.ret S1 (r _ _)⟩
    · exact P1.elim
  · exact P1.elim
end
end Sh


set_option maxRecDepth 100000
set_option maxHeartbeats 4000000
namespace Sh
open PySem L2 Evl
variable [Wd]

/-! ### the laws' charts, drawn -/
noncomputable def b_yarn : S :=
  (sRet (dOp oIx (dPure (dLst (dCons (dC (.str "b")) (dCons (dC (.str "ab")) (dCons (dC (.str "abzzzzzy")) (dCons (dC (.str "abzzzzzz")) dNil)))))) (dCall m_take (dCons (dVar 0) (dCons (dC (.int 4)) dNil)))))
noncomputable def m_yarn : List W → M W := dBody 1 1 b_yarn
noncomputable def b_join : S :=
  (sSeq (sSet 2 (dAdd (dC (.int 2)) (dCall m_take (dCons (dVar 0) (dCons (dCallB cMin2 (dCons (dC (.int 3)) (dCons (dSub (dVar 1) (dC (.int 1))) dNil))) dNil)))))
  (sSeq (sSet 3 (dOp oIx (dPure (dLst (dCons (dC (.str "left")) (dCons (dC (.str "right")) dNil)))) (dCall m_take (dCons (dVar 0) (dCons (dC (.int 2)) dNil)))))
  (sRet (dTup (dCons (dC (.str "join")) (dCons (dVar 2) (dCons (dVar 3) (dCons (dOp oIx (dPure (dLst (dCons (dC (.str "knit")) (dCons (dC (.str "purl")) dNil)))) (dCall m_take (dCons (dVar 0) (dCons (dC (.int 2)) dNil)))) (dCons (dCall m_yarn (dCons (dVar 0) dNil)) dNil)))))))))
noncomputable def m_join : List W → M W := dBody 2 4 b_join
noncomputable def b_commands : S :=
  (sSeq (sSet 3 (dCell (dLst dNil)))
  (sSeq (sSet 4 (dVar 1))
  (sSeq (sSet 5 (dSub (dVar 2) (dVar 1)))
  (sSeq (sFor (iR1 (dCons (dAdd (dVar 1) (dC (.int 7))) dNil)) (gN 6)
  (sSeq (sSet 7 (dCall m_take (dCons (dVar 0) (dCons (dC (.int 9)) dNil))))
  (sIf (dAnd (dB (dGt (dVar 5) (dC (.int 0)))) (dOr (dB (dEq (dVar 7) (dC (.int 0)))) (dAnd (dB (dEq (dVar 4) (dC (.int 0)))) (dB (dLt (dVar 7) (dC (.int 5)))))))
  (sSeq (sDrop (dBM tyL mAppend (dVar 3) (dCons (dTup (dCons (dC (.str "tuck")) (dCons (dCall m_yarn (dCons (dVar 0) dNil)) dNil))) dNil)))
  (sSet 5 (dSub (dVar 5) (dC (.int 1)))))
  (sIf (dAnd (dB (dEq (dVar 7) (dC (.int 1)))) (dB (dGt (dVar 4) (dC (.int 1)))))
  (sSeq (sDrop (dBM tyL mAppend (dVar 3) (dCons (dCall m_join (dCons (dVar 0) (dCons (dVar 4) dNil))) dNil)))
  (sSet 4 (dSub (dVar 4) (dOp oIx (dOp oIx (dVar 3) (dUn oNeg (dC (.int 1)))) (dC (.int 1))))))
  (sIf (dAnd (dB (dEq (dVar 7) (dC (.int 2)))) (dB (dGt (dVar 4) (dC (.int 0)))))
  (sSeq (sDrop (dBM tyL mAppend (dVar 3) (dCons (dTup (dCons (dC (.str "pass")) dNil)) dNil)))
  (sSet 4 (dSub (dVar 4) (dC (.int 1)))))
  (sIf (dAnd (dB (dEq (dVar 7) (dC (.int 3)))) (dB (dGt (dVar 4) (dC (.int 1)))))
  (sSeq (sDrop (dBM tyL mAppend (dVar 3) (dCons (dTup (dCons (dC (.str "drop")) dNil)) dNil)))
  (sSet 4 (dSub (dVar 4) (dC (.int 1)))))
  (sIf (dB (dGt (dVar 4) (dC (.int 0))))
  (sSeq (sDrop (dBM tyL mAppend (dVar 3) (dCons (dTup (dCons (dOp oIx (dPure (dLst (dCons (dC (.str "knit")) (dCons (dC (.str "purl")) dNil)))) (dMod (dCallB cInt (dCons (dVar 7) dNil)) (dC (.int 2)))) (dCons (dCall m_yarn (dCons (dVar 0) dNil)) dNil))) dNil)))
  (sSet 4 (dSub (dVar 4) (dC (.int 1)))))
  sNil)))))))
  (sRet (dPure (dOpF oCat (dVar 3) (dPure (dOpF oRep (dPure (dLst (dCons (dTup (dCons (dC (.str "knit")) (dCons (dC (.str "a")) dNil))) dNil))) (dVar 4))))))))))
noncomputable def m_commands : List W → M W := dBody 3 8 b_commands
noncomputable def b_count : S :=
  (sRet (dCallB cSum (dCons (dPure (dLc (iL (dVar 0)) (gN 1) tYesW (dCallB cInt (dCons (dNe (dOp oIx (dVar 1) (dC (.int 0))) (dC (.str "drop"))) dNil)) [1])) dNil)))
noncomputable def m_count : List W → M W := dBody 1 2 b_count
noncomputable def b_chart : S :=
  (sSeq (sSet 3 (dCell (dLst (dCons (dTup (dCons (dC (.str "work")) (dCons (dC (.str "right")) (dCons (dPure (dLc (iR1 (dCons (dAdd (dCall m_take (dCons (dVar 0) (dCons (dVar 1) dNil))) (dC (.int 1))) dNil)) (gN 4) tYesW (dTup (dCons (dC (.str "tuck")) (dCons (dCall m_yarn (dCons (dVar 0) dNil)) dNil))) [4])) dNil)))) dNil))))
  (sSeq (sSet 5 (dCallB cLen (dCons (dOp oIx (dOp oIx (dVar 3) (dC (.int 0))) (dC (.int 2))) dNil)))
  (sSeq (sFor (iR1 (dCons (dCall m_take (dCons (dVar 0) (dCons (dVar 2) dNil))) dNil)) (gN 4)
  (sIf (dAnd (dB (dGt (dVar 5) (dC (.int 1)))) (dB (dEq (dCall m_take (dCons (dVar 0) (dCons (dC (.int 3)) dNil))) (dC (.int 1)))))
  (sSeq (sSet 6 (dCell (dLst dNil)))
  (sSeq (sFor (iR1 (dCons (dCall m_take (dCons (dVar 0) (dCons (dC (.int 4)) dNil))) dNil)) (gN 7)
  (sDrop (dBM tyL mAppend (dVar 6) (dCons (dTup (dCons (dCall m_take (dCons (dVar 0) (dCons (dSub (dVar 5) (dC (.int 1))) dNil))) (dCons (dOp oIx (dPure (dLst (dCons (dC (.str "left")) (dCons (dC (.str "right")) dNil)))) (dCall m_take (dCons (dVar 0) (dCons (dC (.int 2)) dNil)))) dNil))) dNil))))
  (sDrop (dBM tyL mAppend (dVar 3) (dCons (dTup (dCons (dC (.str "move")) (dCons (dFz (dVar 6)) dNil))) dNil)))))
  (sSeq (sSet 8 (dCall m_commands (dCons (dVar 0) (dCons (dVar 5) (dCons (dVar 1) dNil)))))
  (sSeq (sDrop (dBM tyL mAppend (dVar 3) (dCons (dTup (dCons (dC (.str "work")) (dCons (dOp oIx (dPure (dLst (dCons (dC (.str "right")) (dCons (dC (.str "left")) dNil)))) (dCall m_take (dCons (dVar 0) (dCons (dC (.int 2)) dNil)))) (dCons (dVar 8) dNil)))) dNil)))
  (sSet 5 (dCall m_count (dCons (dVar 8) dNil)))))))
  (sRet (dFz (dVar 3))))))
noncomputable def m_chart : List W → M W := dBody 3 9 b_chart

/-- all but the cell s stays -/
structure Fr (s : Nat) (st st' : Store) : Prop where
  len : st.length ≤ st'.length
  keep : ∀ n, n ≠ s → n < st.length → st'[n]? = st[n]?
theorem Fr.refl (s : Nat) (st : Store) : Fr s st st := ⟨Nat.le_refl _, fun _ _ _ => rfl⟩
theorem Fr.trans {s : Nat} {st st1 st2 : Store} (a : Fr s st st1) (b : Fr s st1 st2) : Fr s st st2 := ⟨Nat.le_trans a.len b.len, fun n h l => (b.keep n h (Nat.lt_of_lt_of_le l a.len)).trans (a.keep n h l)⟩
theorem Fr.set {s : Nat} {st : Store} {c : C} : Fr s st (st.set s c) := ⟨by rw [List.length_set]; exact Nat.le_refl _, fun n h _ => List.getElem?_set_ne (Ne.symm h)⟩
theorem Fr.app {s : Nat} {st r : Store} : Fr s st (st ++ r) := ⟨by rw [List.length_append]; omega, fun n _ l => List.getElem?_append_left l⟩
theorem Fr.cell {s n : Nat} {st st' : Store} (f : Fr s st st') (h : n ≠ s) (l : n < st.length) : lcell st' n = lcell st n := by
  unfold lcell
  rw [f.keep n h l]
/-- a later cell is written -/
theorem Fr.write {s n : Nat} {st st1 : Store} {c : C} (f : Fr s st st1) (h : st.length ≤ n) : Fr s st (st1.set n c) := ⟨by rw [List.length_set]; exact f.len, fun k h1 l => by rw [List.getElem?_set_ne (by omega)]; exact f.keep k h1 l⟩
theorem StOk.write {ns : List Int} {s n : Nat} {st : Store} {c : C} (h : StOk ns st s) (ne : n ≠ s) : StOk ns (st.set n c) s := by
  obtain ⟨a, b, d, e, f⟩ := h
  exact ⟨a, b, d, by rw [lcell_set_ne ne, e], f⟩
theorem StOk.app {ns : List Int} {s : Nat} {st r : Store} (h : StOk ns st s) : StOk ns (st ++ r) s := by
  have l := h.lt
  obtain ⟨a, b, d, e, f⟩ := h
  exact ⟨a, b, d, by rw [lcell_app l, e], f⟩
section
variable {ns : List Int} {s : Nat} {st : Store} {env : Env}
theorem take_fr {k : Int} (h : StOk ns st s) (hk : 0 < k) (hk2 : k < 1073741824) : ∃ v st', m_take [.cell s, .int k] st = .ok (.int v) st' ∧ 0 ≤ v ∧ v < k ∧ StOk ns st' s ∧ Fr s st st' := by
  obtain ⟨v, st', a, b, c, d, e, rfl⟩ := take_ok h hk hk2
  exact ⟨v, _, a, b, c, d, Fr.set⟩
/-- a draw within a def: state stands in slot 0 -/
theorem tk_run {e : Env → M W} {k : Int} (h0 : env[0]? = some (some (.cell s))) (he : e env st = .ok (.int k) st) (h : StOk ns st s) (hk : 0 < k) (hk2 : k < 1073741824) :
    ∃ v st', dCall m_take (dCons (dVar 0) (dCons e dNil)) env st = .ok (.int v) st' ∧ 0 ≤ v ∧ v < k ∧ StOk ns st' s ∧ Fr s st st' := by
  obtain ⟨v, st', a, b⟩ := take_fr h hk hk2
  exact ⟨v, st', rCall (rCons (rV h0) (rCons he rNil)) a, b⟩
theorem pick_run {dl : Env → M (List W)} {xs : List W} {e : Env → M W} (h0 : env[0]? = some (some (.cell s))) (hd : dl env st = .ok xs st) (he : e env st = .ok (.int (xs.length : Int)) st) (h : StOk ns st s) (hk : 0 < xs.length) (hk2 : xs.length ≤ 1000) :
    ∃ w st', w ∈ xs ∧ dOp oIx (dPure (dLst dl)) (dCall m_take (dCons (dVar 0) (dCons e dNil))) env st = .ok w st' ∧ StOk ns st' s ∧ Fr s st st' := by
  obtain ⟨v, st', a, b, c, d, f⟩ := tk_run h0 he h (k := (xs.length : Int)) (by omega) (by omega)
  have l : v.toNat < xs.length := by omega
  exact ⟨xs[v.toNat], st', List.getElem_mem l, rOp (x := .lst xs) (rPure (rLst hd (line_ge (by omega)))) a (ix_at rfl b (List.getElem?_eq_getElem l)), d, f⟩
def YOk (y : Str) : Prop := okD (.str y) = true ∧ wtD (.str y) ≤ 8
theorem yarn_run (h : StOk ns st s) : ∃ y st', m_yarn [.cell s] st = .ok (.str y) st' ∧ YOk y ∧ StOk ns st' s ∧ Fr s st st' := by
  obtain ⟨w, st', a, b, c, d⟩ := pick_run (env := [some (.cell s)]) (dl := dCons (dC (.str "b")) (dCons (dC (.str "ab")) (dCons (dC (.str "abzzzzzy")) (dCons (dC (.str "abzzzzzz")) dNil)))) (xs := [.str "b", .str "ab", .str "abzzzzzy", .str "abzzzzzz"]) (e := dC (.int 4)) rfl (rCons rC (rCons rC (rCons rC (rCons rC rNil)))) rC h (by decide) (by decide)
  obtain ⟨y, rfl, hy⟩ : ∃ y, w = .str y ∧ YOk y := by
    simp only [List.mem_cons, List.not_mem_nil, or_false] at a
    rcases a with rfl | rfl | rfl | rfl
    · exact ⟨_, rfl, by decide +kernel, by decide +kernel⟩
    · exact ⟨_, rfl, by decide +kernel, by decide +kernel⟩
    · exact ⟨_, rfl, by decide +kernel, by decide +kernel⟩
    · exact ⟨_, rfl, by decide +kernel, by decide +kernel⟩
  exact ⟨y, st', body_rt rfl (sRet_at b), hy, c, d⟩
/-- commands of a chart -/
inductive Cmd where
  | join (n : Int) (lean side y : Str) | two (k y : Str) | one (k : Str)
def cW : Cmd → W
  | .join n lean side y => .tup [.str "join", .int n, .str lean, .str side, .str y]
  | .two k y => .tup [.str k, .str y]
  | .one k => .tup [.str k]
def Cmd.ok : Cmd → Prop
  | .join n lean side y => (1 ≤ n ∧ n ≤ 1000) ∧ (lean = "left" ∨ lean = "right") ∧ (side = "knit" ∨ side = "purl") ∧ YOk y
  | .two k y => (k = "knit" ∨ k = "purl" ∨ k = "tuck") ∧ YOk y
  | .one k => k = "pass" ∨ k = "drop"
def Cmd.aft : Cmd → Nat
  | .one k => if k = "drop" then 0 else 1
  | _ => 1
def aft (cs : List Cmd) : Nat := (cs.map Cmd.aft).sum
theorem join_run {left : Int} (h : StOk ns st s) (hl : 2 ≤ left) : ∃ n lean side y st', m_join [.cell s, .int left] st = .ok (cW (.join n lean side y)) st' ∧ (2 ≤ n ∧ n ≤ 4 ∧ n ≤ left) ∧ (lean = "left" ∨ lean = "right") ∧ (side = "knit" ∨ side = "purl") ∧ YOk y ∧ StOk ns st' s ∧ Fr s st st' := by
  have mn : cMin2 [.int 3, .int (left - 1)] st = .ok (.int (if left - 1 < 3 then left - 1 else 3)) st := rfl
  obtain ⟨v, st1, a1, a2, a3, a4, a5⟩ := tk_run (env := [some (.cell s), some (.int left), none, none]) (e := dCallB cMin2 (dCons (dC (.int 3)) (dCons (dSub (dVar 1) (dC (.int 1))) dNil))) rfl (rCallB (rCons rC (rCons (rOp (rV rfl) rC rfl) rNil)) mn) h (by split <;> omega) (by split <;> omega)
  obtain ⟨w2, st2, b1, b2, b3, b4⟩ := pick_run (env := [some (.cell s), some (.int left), some (.int (2 + v)), none]) (dl := dCons (dC (.str "left")) (dCons (dC (.str "right")) dNil)) (xs := [.str "left", .str "right"]) (e := dC (.int 2)) rfl (rCons rC (rCons rC rNil)) rC a4 (by decide) (by decide)
  obtain ⟨lean, rfl, hlean⟩ : ∃ y : Str, w2 = .str y ∧ (y = "left" ∨ y = "right") := by
    simp only [List.mem_cons, List.not_mem_nil, or_false] at b1
    rcases b1 with rfl | rfl
    · exact ⟨_, rfl, .inl rfl⟩
    · exact ⟨_, rfl, .inr rfl⟩
  obtain ⟨w3, st3, c1, c2, c3, c4⟩ := pick_run (env := [some (.cell s), some (.int left), some (.int (2 + v)), some (.str lean)]) (dl := dCons (dC (.str "knit")) (dCons (dC (.str "purl")) dNil)) (xs := [.str "knit", .str "purl"]) (e := dC (.int 2)) rfl (rCons rC (rCons rC rNil)) rC b3 (by decide) (by decide)
  obtain ⟨side, rfl, hside⟩ : ∃ y : Str, w3 = .str y ∧ (y = "knit" ∨ y = "purl") := by
    simp only [List.mem_cons, List.not_mem_nil, or_false] at c1
    rcases c1 with rfl | rfl
    · exact ⟨_, rfl, .inl rfl⟩
    · exact ⟨_, rfl, .inr rfl⟩
  obtain ⟨y, st4, d1, d2, d3, d4⟩ := yarn_run c3
  refine ⟨2 + v, lean, side, y, st4, body_rt rfl ?_, ⟨by omega, by split at a3 <;> omega, by split at a3 <;> omega⟩, hlean, hside, d2, d3, ((a5.trans b4).trans c4).trans d4⟩
  refine sSeq_at (sSet_at (rOp rC a1 rfl)) (sSeq_at (sSet_at b2) (sRet_at (rTup (rCons rC (rCons (rV rfl) (rCons (rV rfl) (rCons c2 (rCons (rCall (rCons (rV rfl) rNil) d1) rNil))))) (line_ge (by show 5 ≤ 1024; decide)))))
end
end Sh


set_option maxRecDepth 100000
set_option maxHeartbeats 4000000
namespace Sh
open PySem L2 Evl
variable [Wd]
section
variable {env env1 : Env} {st st1 st2 : Store} {t u : Env → M Bool} {a b : Bool} {d : Env → M W} {w : W} {xs : List W} {r i : Nat}
theorem pAnd (h : t env st = .ok a st) (k : u env st = .ok b st) : dAnd t u env st = .ok (a && b) st := by
  cases a with
  | true => exact rAndT h k
  | false => exact rAndF h
theorem pOr (h : t env st = .ok a st) (k : u env st = .ok b st) : dOr t u env st = .ok (a || b) st := by
  cases a with
  | true => exact rOrT h
  | false => exact rOrF h k
theorem mAppend_at (h : lcell st r = some xs) (l : xs.length ≤ 1023) : mAppend (.cell r) [w] st = .ok .non (st.set r (.lst (xs ++ [w]))) := by
  unfold mAppend
  simp only [h]
  exact if_pos (Nat.lt_of_lt_of_le (show xs.length < 1024 by omega) (line_ge (Nat.le_refl _)))
theorem app_run (h3 : env[i]? = some (some (.cell r))) (e : d env st = .ok w st1) (hr : lcell st r = some xs) (hr1 : lcell st1 r = some xs) (l : xs.length ≤ 1023) :
    sDrop (dBM tyL mAppend (dVar i) (dCons d dNil)) env st = .nx env (st1.set r (.lst (xs ++ [w]))) :=
  sDrop_at (rBM (rV h3) (tyL_cell hr) (rCons e rNil) (mAppend_at hr1 l))
theorem ix_last {x w : W} (h : sview w st = some (xs ++ [x])) : oIx w (.int (-1)) st = .ok x st := by
  have e : L2.atI (xs ++ [x]) (-1) = some x := by
    unfold L2.atI L2.ixN
    rw [List.length_append, List.length_singleton]
    rw [if_neg (by decide), if_pos (by omega)]
    have q : ((-1 : Int) + ((xs.length + 1 : Nat) : Int)).toNat = xs.length := by omega
    have q2 : (((xs.length + 1 : Nat) : Int) + (-1 : Int)).toNat = xs.length := by omega
    first
      | (simp only [q]; simp)
      | (simp only [q2]; simp)
  unfold oIx
  rw [h]
  simp only [e]
end
/-- how many columns a command takes -/
def Cmd.tks : Cmd → Int
  | .join n _ _ _ => n
  | .two k _ => if k = "tuck" then 0 else 1
  | .one _ => 1
def tks (cs : List Cmd) : Int := (cs.map Cmd.tks).sum
theorem tks_snoc (cs : List Cmd) (c : Cmd) : tks (cs ++ [c]) = tks cs + c.tks := by
  unfold tks
  rw [List.map_append, List.sum_append]
  simp
noncomputable abbrev cmdBody : S :=
  (sSeq (sSet 7 (dCall m_take (dCons (dVar 0) (dCons (dC (.int 9)) dNil))))
  (sIf (dAnd (dB (dGt (dVar 5) (dC (.int 0)))) (dOr (dB (dEq (dVar 7) (dC (.int 0)))) (dAnd (dB (dEq (dVar 4) (dC (.int 0)))) (dB (dLt (dVar 7) (dC (.int 5)))))))
  (sSeq (sDrop (dBM tyL mAppend (dVar 3) (dCons (dTup (dCons (dC (.str "tuck")) (dCons (dCall m_yarn (dCons (dVar 0) dNil)) dNil))) dNil)))
  (sSet 5 (dSub (dVar 5) (dC (.int 1)))))
  (sIf (dAnd (dB (dEq (dVar 7) (dC (.int 1)))) (dB (dGt (dVar 4) (dC (.int 1)))))
  (sSeq (sDrop (dBM tyL mAppend (dVar 3) (dCons (dCall m_join (dCons (dVar 0) (dCons (dVar 4) dNil))) dNil)))
  (sSet 4 (dSub (dVar 4) (dOp oIx (dOp oIx (dVar 3) (dUn oNeg (dC (.int 1)))) (dC (.int 1))))))
  (sIf (dAnd (dB (dEq (dVar 7) (dC (.int 2)))) (dB (dGt (dVar 4) (dC (.int 0)))))
  (sSeq (sDrop (dBM tyL mAppend (dVar 3) (dCons (dTup (dCons (dC (.str "pass")) dNil)) dNil)))
  (sSet 4 (dSub (dVar 4) (dC (.int 1)))))
  (sIf (dAnd (dB (dEq (dVar 7) (dC (.int 3)))) (dB (dGt (dVar 4) (dC (.int 1)))))
  (sSeq (sDrop (dBM tyL mAppend (dVar 3) (dCons (dTup (dCons (dC (.str "drop")) dNil)) dNil)))
  (sSet 4 (dSub (dVar 4) (dC (.int 1)))))
  (sIf (dB (dGt (dVar 4) (dC (.int 0))))
  (sSeq (sDrop (dBM tyL mAppend (dVar 3) (dCons (dTup (dCons (dOp oIx (dPure (dLst (dCons (dC (.str "knit")) (dCons (dC (.str "purl")) dNil)))) (dMod (dCallB cInt (dCons (dVar 7) dNil)) (dC (.int 2)))) (dCons (dCall m_yarn (dCons (dVar 0) dNil)) dNil))) dNil)))
  (sSet 4 (dSub (dVar 4) (dC (.int 1)))))
  sNil))))))
abbrev cEnv (s r : Nat) (count most left room : Int) (e6 e7 : Option W) : Env := [some (.cell s), some (.int count), some (.int most), some (.cell r), some (.int left), some (.int room), e6, e7]
section
variable {ns : List Int} {s r : Nat} {st : Store} {count most left room : Int} {e6 e7 : Option W} {cs : List Cmd}
theorem cmd_turn (ok : StOk ns st s) (hr : lcell st r = some (cs.map cW)) (ne : r ≠ s) (hok : ∀ c ∈ cs, c.ok) (hl : 0 ≤ left) (hm : 0 ≤ room) (hz : cs.length ≤ 1000) {st0 : Store} (f : Fr s st0 st) (h0 : st0.length ≤ r) :
    ∃ (cs' : List Cmd) (left' room' : Int) (e7' : Option W) (st' : Store), cmdBody (cEnv s r count most left room e6 e7) st = .nx (cEnv s r count most left' room' e6 e7') st' ∧ lcell st' r = some (cs'.map cW) ∧ (∀ c ∈ cs', c.ok) ∧ StOk ns st' s ∧ Fr s st0 st' ∧
      (aft cs' : Int) + left' + room' ≤ (aft cs : Int) + left + room ∧ cs'.length ≤ cs.length + 1 ∧ 0 ≤ left' ∧ left' ≤ left ∧ 0 ≤ room' ∧ tks cs' + left' = tks cs + left := by
  obtain ⟨kind, st1, k1, k2, k3, k4, k5⟩ := tk_run (env := cEnv s r count most left room e6 e7) (e := dC (.int 9)) rfl rC ok (by decide) (by decide)
  have lr := lcell_lt hr
  have hr1 : lcell st1 r = some (cs.map cW) := by rw [k5.cell ne lr, hr]
  have lz : (cs.map cW).length ≤ 1023 := by rw [List.length_map]; omega
  have more : ∀ {c : Cmd} {st2 : Store}, c.ok → StOk ns st2 s → Fr s st1 st2 → lcell (st2.set r (.lst (cs.map cW ++ [cW c]))) r = some ((cs ++ [c]).map cW) ∧ (∀ x ∈ cs ++ [c], x.ok) ∧ StOk ns (st2.set r (.lst (cs.map cW ++ [cW c]))) s ∧ Fr s st0 (st2.set r (.lst (cs.map cW ++ [cW c]))) := by
    intro c st2 hc o2 f2
    refine ⟨?_, ?_, o2.write ne, ((f.trans k5).trans f2).write h0⟩
    · rw [lcell_set (Nat.lt_of_lt_of_le (Nat.lt_of_lt_of_le lr k5.len) f2.len), List.map_append]
      rfl
    · intro x hx
      rcases List.mem_append.mp hx with hx | hx
      · exact hok x hx
      · rw [List.mem_singleton.mp hx]
        exact hc
  have aft1 : ∀ c : Cmd, aft (cs ++ [c]) = aft cs + c.aft := by
    intro c
    unfold aft
    rw [List.map_append, List.sum_append]
    simp
  have len1 : ∀ c : Cmd, (cs ++ [c]).length = cs.length + 1 := fun c => by simp
  have t1 : ∀ st, dAnd (dB (dGt (dVar 5) (dC (.int 0)))) (dOr (dB (dEq (dVar 7) (dC (.int 0)))) (dAnd (dB (dEq (dVar 4) (dC (.int 0)))) (dB (dLt (dVar 7) (dC (.int 5)))))) (cEnv s r count most left room e6 (some (.int kind))) st =
      .ok (decide (0 < room) && (decide (kind = 0) || (decide (left = 0) && decide (kind < 5)))) st := fun st => pAnd (rB (rOp (rV rfl) rC rfl)) (pOr (rB (rOp (rV rfl) rC rfl)) (pAnd (rB (rOp (rV rfl) rC rfl)) (rB (rOp (rV rfl) rC rfl))))
  have t2 : ∀ st, dAnd (dB (dEq (dVar 7) (dC (.int 1)))) (dB (dGt (dVar 4) (dC (.int 1)))) (cEnv s r count most left room e6 (some (.int kind))) st = .ok (decide (kind = 1) && decide (1 < left)) st := fun st => pAnd (rB (rOp (rV rfl) rC rfl)) (rB (rOp (rV rfl) rC rfl))
  have t3 : ∀ st, dAnd (dB (dEq (dVar 7) (dC (.int 2)))) (dB (dGt (dVar 4) (dC (.int 0)))) (cEnv s r count most left room e6 (some (.int kind))) st = .ok (decide (kind = 2) && decide (0 < left)) st := fun st => pAnd (rB (rOp (rV rfl) rC rfl)) (rB (rOp (rV rfl) rC rfl))
  have t4 : ∀ st, dAnd (dB (dEq (dVar 7) (dC (.int 3)))) (dB (dGt (dVar 4) (dC (.int 1)))) (cEnv s r count most left room e6 (some (.int kind))) st = .ok (decide (kind = 3) && decide (1 < left)) st := fun st => pAnd (rB (rOp (rV rfl) rC rfl)) (rB (rOp (rV rfl) rC rfl))
  have t5 : ∀ st, dB (dGt (dVar 4) (dC (.int 0))) (cEnv s r count most left room e6 (some (.int kind))) st = .ok (decide (0 < left)) st := fun st => rB (rOp (rV rfl) rC rfl)
  have l2 : (2 : Nat) ≤ sizeLine := line_ge (by decide)
  have l1 : (1 : Nat) ≤ sizeLine := line_ge (by decide)
  have b0 : sSet 7 (dCall m_take (dCons (dVar 0) (dCons (dC (.int 9)) dNil))) (cEnv s r count most left room e6 e7) st = .nx (cEnv s r count most left room e6 (some (.int kind))) st1 := sSet_at k1
  cases q1 : (decide (0 < room) && (decide (kind = 0) || (decide (left = 0) && decide (kind < 5)))) with
  | true =>
    have hroom : 0 < room := by simp only [Bool.and_eq_true, decide_eq_true_eq] at q1; exact q1.1
    obtain ⟨y, st2, y1, y2, y3, y4⟩ := yarn_run k4
    obtain ⟨m1, m2, m3, m4⟩ := more (c := .two "tuck" y) ⟨.inr (.inr rfl), y2⟩ y3 y4
    refine ⟨cs ++ [.two "tuck" y], left, room - 1, some (.int kind), _, ?_, m1, m2, m3, m4, ?_, by rw [len1]; exact Nat.le_refl _, hl, Int.le_refl _, by omega, by rw [tks_snoc, show Cmd.tks (.two "tuck" y) = 0 from rfl]; omega⟩
    · exact sSeq_at b0 (sIf_t ((t1 st1).trans (by rw [q1])) (sSeq_at (app_run rfl (rTup (rCons rC (rCons (rCall (rCons (rV rfl) rNil) y1) rNil)) l2) hr1 (by rw [y4.cell ne (lcell_lt hr1), hr1]) lz) (sSet_at (rOp (rV rfl) rC rfl))))
    · rw [aft1]
      have : Cmd.aft (.two "tuck" y) = 1 := rfl
      omega
  | false =>
  cases q2 : (decide (kind = 1) && decide (1 < left)) with
  | true =>
    have hleft : 1 < left := by simp only [Bool.and_eq_true, decide_eq_true_eq] at q2; exact q2.2
    obtain ⟨n, lean, side, y, st2, y1, y2, y3, y4, y5, y6, y7⟩ := join_run (left := left) k4 (by omega)
    obtain ⟨m1, m2, m3, m4⟩ := more (c := .join n lean side y) ⟨⟨by omega, by omega⟩, y3, y4, y5⟩ y6 y7
    refine ⟨cs ++ [.join n lean side y], left - n, room, some (.int kind), _, ?_, m1, m2, m3, m4, ?_, by rw [len1]; exact Nat.le_refl _, by omega, by omega, hm, by rw [tks_snoc, show Cmd.tks (.join n lean side y) = n from rfl]; omega⟩
    · refine sSeq_at b0 (sIf_f ((t1 st1).trans (by rw [q1])) (sIf_t ((t2 st1).trans (by rw [q2])) (sSeq_at (app_run rfl (rCall (rCons (rV rfl) (rCons (rV rfl) rNil)) y1) hr1 (by rw [y7.cell ne (lcell_lt hr1), hr1]) lz) ?_)))
      have mm : lcell (st2.set r (.lst (cs.map cW ++ [cW (.join n lean side y)]))) r = some (cs.map cW ++ [cW (.join n lean side y)]) := by rw [m1, List.map_append]; rfl
      exact sSet_at (rOp (rV rfl) (rOp (x := cW (.join n lean side y)) (y := .int 1) (rOp (x := .cell r) (y := .int (-1)) (rV rfl) rfl (ix_last (w := .cell r) mm)) rC (ix_at rfl (by decide) rfl)) rfl)
    · rw [aft1]
      have : Cmd.aft (.join n lean side y) = 1 := rfl
      omega
  | false =>
  cases q3 : (decide (kind = 2) && decide (0 < left)) with
  | true =>
    have hleft : 0 < left := by simp only [Bool.and_eq_true, decide_eq_true_eq] at q3; exact q3.2
    obtain ⟨m1, m2, m3, m4⟩ := more (c := .one "pass") (.inl rfl) k4 (Fr.refl s st1)
    refine ⟨cs ++ [.one "pass"], left - 1, room, some (.int kind), _, ?_, m1, m2, m3, m4, ?_, by rw [len1]; exact Nat.le_refl _, by omega, by omega, hm, by rw [tks_snoc, show Cmd.tks (.one "pass") = 1 from rfl]; omega⟩
    · exact sSeq_at b0 (sIf_f ((t1 st1).trans (by rw [q1])) (sIf_f ((t2 st1).trans (by rw [q2])) (sIf_t ((t3 st1).trans (by rw [q3])) (sSeq_at (app_run rfl (rTup (rCons rC rNil) l1) hr1 hr1 lz) (sSet_at (rOp (rV rfl) rC rfl))))))
    · rw [aft1]
      have : Cmd.aft (.one "pass") = 1 := by decide +kernel
      omega
  | false =>
  cases q4 : (decide (kind = 3) && decide (1 < left)) with
  | true =>
    have hleft : 1 < left := by simp only [Bool.and_eq_true, decide_eq_true_eq] at q4; exact q4.2
    obtain ⟨m1, m2, m3, m4⟩ := more (c := .one "drop") (.inr rfl) k4 (Fr.refl s st1)
    refine ⟨cs ++ [.one "drop"], left - 1, room, some (.int kind), _, ?_, m1, m2, m3, m4, ?_, by rw [len1]; exact Nat.le_refl _, by omega, by omega, hm, by rw [tks_snoc, show Cmd.tks (.one "drop") = 1 from rfl]; omega⟩
    · exact sSeq_at b0 (sIf_f ((t1 st1).trans (by rw [q1])) (sIf_f ((t2 st1).trans (by rw [q2])) (sIf_f ((t3 st1).trans (by rw [q3])) (sIf_t ((t4 st1).trans (by rw [q4])) (sSeq_at (app_run rfl (rTup (rCons rC rNil) l1) hr1 hr1 lz) (sSet_at (rOp (rV rfl) rC rfl)))))))
    · rw [aft1]
      have : Cmd.aft (.one "drop") = 0 := by decide +kernel
      omega
  | false =>
  by_cases hleft : 0 < left
  · obtain ⟨y, st2, y1, y2, y3, y4⟩ := yarn_run k4
    have hk : kind % 2 = 0 ∨ kind % 2 = 1 := by omega
    obtain ⟨sd, hsd, hix⟩ : ∃ sd : Str, (sd = "knit" ∨ sd = "purl") ∧ ∀ st, oIx (.lst [.str "knit", .str "purl"]) (.int (kind % 2)) st = .ok (.str sd) st := by
      rcases hk with h | h
      · exact ⟨"knit", .inl rfl, fun st => by rw [h]; exact ix_at rfl (by decide) rfl⟩
      · exact ⟨"purl", .inr rfl, fun st => by rw [h]; exact ix_at rfl (by decide) rfl⟩
    obtain ⟨m1, m2, m3, m4⟩ := more (c := .two sd y) ⟨by rcases hsd with h | h; exact .inl h; exact .inr (.inl h), y2⟩ y3 y4
    refine ⟨cs ++ [.two sd y], left - 1, room, some (.int kind), _, ?_, m1, m2, m3, m4, ?_, by rw [len1]; exact Nat.le_refl _, by omega, by omega, hm, by rw [tks_snoc, show Cmd.tks (.two sd y) = 1 from by rcases hsd with h | h <;> (rw [h]; rfl)]; omega⟩
    · refine sSeq_at b0 (sIf_f ((t1 st1).trans (by rw [q1])) (sIf_f ((t2 st1).trans (by rw [q2])) (sIf_f ((t3 st1).trans (by rw [q3])) (sIf_f ((t4 st1).trans (by rw [q4])) (sIf_t ((t5 st1).trans (by rw [decide_eq_true hleft])) (sSeq_at (app_run rfl (rTup (rCons ?_ (rCons (rCall (rCons (rV rfl) rNil) y1) rNil)) l2) hr1 (by rw [y4.cell ne (lcell_lt hr1), hr1]) lz) (sSet_at (rOp (rV rfl) rC rfl))))))))
      exact rOp (x := .lst [.str "knit", .str "purl"]) (y := .int (kind % 2)) (rPure (rLst (rCons rC (rCons rC rNil)) l2)) (rOp (x := .int kind) (y := .int 2) (rCallB (rCons (rV rfl) rNil) rfl) rC (oIC_at (show (0 : Int) < 2 by decide))) (hix st1)
    · rw [aft1]
      have : Cmd.aft (.two sd y) = 1 := rfl
      omega
  · refine ⟨cs, left, room, some (.int kind), st1, ?_, hr1, hok, k4, f.trans k5, Int.le_refl _, by omega, hl, Int.le_refl _, hm, rfl⟩
    exact sSeq_at b0 (sIf_f ((t1 st1).trans (by rw [q1])) (sIf_f ((t2 st1).trans (by rw [q2])) (sIf_f ((t3 st1).trans (by rw [q3])) (sIf_f ((t4 st1).trans (by rw [q4])) (sIf_f ((t5 st1).trans (by rw [decide_eq_false hleft])) sNil_at)))))
theorem cmds_loop : ∀ (n : Nat) (k : Int) (cs : List Cmd) (left room : Int) (e6 e7 : Option W) (st st0 : Store), StOk ns st s → lcell st r = some (cs.map cW) → r ≠ s → (∀ c ∈ cs, c.ok) → 0 ≤ left → 0 ≤ room → cs.length + n ≤ 1000 → Fr s st0 st → st0.length ≤ r →
    ∃ (cs' : List Cmd) (left' room' : Int) (e6' e7' : Option W) (st' : Store), forGo (fun _ => True) (gN 6) cmdBody (rngW k n) (cEnv s r count most left room e6 e7) st = .nx (cEnv s r count most left' room' e6' e7') st' ∧ lcell st' r = some (cs'.map cW) ∧ (∀ c ∈ cs', c.ok) ∧ StOk ns st' s ∧ Fr s st0 st' ∧
      (aft cs' : Int) + left' + room' ≤ (aft cs : Int) + left + room ∧ cs'.length ≤ cs.length + n ∧ 0 ≤ left' ∧ left' ≤ left ∧ 0 ≤ room' ∧ tks cs' + left' = tks cs + left
  | 0, k, cs, left, room, e6, e7, st, st0, ok, hr, ne, hok, hl, hm, hz, f, h0 => ⟨cs, left, room, e6, e7, st, forGo_nil True.intro, hr, hok, ok, f, Int.le_refl _, Nat.le_refl _, hl, Int.le_refl _, hm, rfl⟩
  | n + 1, k, cs, left, room, e6, e7, st, st0, ok, hr, ne, hok, hl, hm, hz, f, h0 => by
    obtain ⟨cs1, left1, room1, f7, st1, a1, a2, a3, a4, a5, a6, a7, a8, a9, a10, a11⟩ := cmd_turn (count := count) (most := most) (e6 := some (.int k)) (e7 := e7) ok hr ne hok hl hm (by omega) f h0
    obtain ⟨cs2, left2, room2, g6, g7, st2, b1, b2, b3, b4, b5, b6, b7, b8, b9, b10, b11⟩ := cmds_loop n (k + 1) cs1 left1 room1 (some (.int k)) f7 st1 st0 a4 a2 ne a3 a8 a10 (by omega) a5 h0
    refine ⟨cs2, left2, room2, g6, g7, st2, ?_, b2, b3, b4, b5, by omega, by omega, b8, by omega, b10, by omega⟩
    have e : rngW k (n + 1) = .int k :: rngW (k + 1) n := by
      unfold rngW
      rw [List.range_succ_eq_map, List.map_cons, List.map_map]
      simp only [Int.natCast_zero, Int.add_zero]
      congr 1
      refine List.map_congr_left fun i _ => ?_
      simp only [Function.comp]
      congr 1
      omega
    rw [e, forGo_nx (env1 := cEnv s r count most left room (some (.int k)) e7) (st1 := st) True.intro rfl a1]
    exact b1
end
end Sh


set_option maxRecDepth 100000
set_option maxHeartbeats 4000000
namespace Sh
open PySem L2 Evl
variable [Wd]
theorem oCat_at {x y : W} {xs ys : List W} {st : Store} (h1 : lviewT x st = some xs) (h2 : lviewT y st = some ys) (l : xs.length + ys.length ≤ 1024) : oCat x y st = .ok (xs ++ ys) st := by
  unfold oCat
  rw [h1, h2]
  exact if_pos (line_ge l)
theorem lc_pure {g : T} {tt : Env → M Bool} {te : Env → M W} {env : Env} {st : Store} {α : Type} {u : α → W} {e2 : α → Env} {p : α → Bool} {f : α → W} : ∀ (ws : List α) (acc : List W),
    (∀ w ∈ ws, g (u w) env st = .ok (e2 w) st ∧ tt (e2 w) st = .ok (p w) st ∧ te (e2 w) st = .ok (f w) st) → acc.length + ws.length ≤ 1024 →
    lcGo (fun _ => True) g tt te env (ws.map u) acc st = .ok (acc ++ (ws.filter p).map f) st
  | [], acc, h, hz => by simp [lcGo]
  | w :: ws, acc, h, hz => by
    obtain ⟨h1, h2, h3⟩ := h w List.mem_cons_self
    rw [List.length_cons] at hz
    have l : acc.length < sizeLine := Nat.lt_of_lt_of_le (show acc.length < 1024 by omega) (line_ge (Nat.le_refl _))
    rw [List.map_cons, lcGo, if_pos True.intro, h1]
    show (tt (e2 w) st).nox.bind _ = _
    rw [h2]
    rw [show (Out.ok (p w) st).nox = .ok (p w) st from rfl, Out.bind_ok]
    by_cases q : p w = true
    · rw [if_pos q, h3, show (Out.ok (f w) st).nox = .ok (f w) st from rfl, Out.bind_ok, if_pos l, lc_pure ws (acc ++ [f w]) (fun w hw => h w (List.mem_cons_of_mem _ hw)) (by rw [List.length_append, List.length_singleton]; omega),
        List.filter_cons, if_pos q, List.map_cons, List.append_assoc]
      rfl
    · rw [if_neg q, lc_pure ws acc (fun w hw => h w (List.mem_cons_of_mem _ hw)) (by omega), List.filter_cons, if_neg q]
theorem rep_cmd (c : Cmd) : ∀ l : Nat, (List.replicate l c).map cW = (List.replicate l [cW c]).flatten
  | 0 => rfl
  | l + 1 => by
    rw [List.replicate_succ, List.replicate_succ, List.map_cons, List.flatten_cons, rep_cmd c l]
    rfl
theorem sum_cast : ∀ cs : List Cmd, (cs.map fun c => (c.aft : Int)).sum = (aft cs : Int)
  | [] => rfl
  | c :: cs => by
    have ih := sum_cast cs
    unfold aft at ih ⊢
    rw [List.map_cons, List.map_cons, List.sum_cons, List.sum_cons, ih, Int.natCast_add]
theorem tks_rep (cs : List Cmd) : ∀ l : Nat, tks (cs ++ List.replicate l (.two "knit" "a")) = tks cs + l
  | 0 => by simp
  | l + 1 => by
    rw [List.replicate_succ', ← List.append_assoc, tks_snoc, tks_rep cs l, show Cmd.tks (.two "knit" "a") = 1 from rfl]
    omega
theorem yok_a : YOk "a" := ⟨by decide +kernel, by decide +kernel⟩
section
variable {ns : List Int} {s r : Nat} {st : Store} {count most : Int}
theorem commands_run (ok : StOk ns st s) (h0 : 0 ≤ count) (h1 : count ≤ most) (h2 : most ≤ 100) :
    ∃ (cs : List Cmd) (st' : Store), m_commands [.cell s, .int count, .int most] st = .ok (.lst (cs.map cW)) st' ∧ (∀ c ∈ cs, c.ok) ∧ (aft cs : Int) ≤ most ∧ cs.length ≤ 300 ∧ StOk ns st' s ∧ Fr s st st' ∧ tks cs = count := by
  have ls := ok.lt
  have l0 : (0 : Nat) ≤ sizeLine := Nat.zero_le _
  have l1 : (1 : Nat) ≤ sizeLine := line_ge (by decide)
  have l2 : (2 : Nat) ≤ sizeLine := line_ge (by decide)
  obtain ⟨n, hn⟩ : ∃ n : Nat, (n : Int) = count + 7 := ⟨(count + 7).toNat, by omega⟩
  obtain ⟨cs, left', room', e6, e7, st2, a1, a2, a3, a4, a5, a6, a7, a8, a9, a10, a11⟩ := cmds_loop (count := count) (most := most) n 0 [] count (most - count) none none (st ++ [.lst []]) st ok.app (r := st.length) lcell_new (by omega) (fun c hc => by cases hc) h0 (by omega) (by simp; omega) Fr.app (Nat.le_refl _)
  obtain ⟨l, rfl⟩ : ∃ l : Nat, left' = (l : Int) := ⟨left'.toNat, by omega⟩
  have af0 : aft ([] : List Cmd) = 0 := rfl
  rw [af0] at a6
  rw [List.length_nil, Nat.zero_add] at a7
  refine ⟨cs ++ List.replicate l (.two "knit" "a"), st2, body_rt rfl ?_, ?_, ?_, ?_, a4, a5, ?_⟩
  · have tot : (cs ++ List.replicate l (Cmd.two "knit" "a")).map cW = cs.map cW ++ (List.replicate l [cW (.two "knit" "a")]).flatten := by
      rw [List.map_append, rep_cmd]
    rw [tot]
    unfold b_commands
    refine sSeq_at (sSet_at (rCell (rLst rNil l0))) ?_
    refine sSeq_at (sSet_at (rV rfl)) ?_
    refine sSeq_at (sSet_at (rOp (rV rfl) (rV rfl) rfl)) ?_
    refine sSeq_at (rFor (rR1 (n := n) (rCons (rOp (x := .int count) (y := .int 7) (rV rfl) rC (by rw [hn]; rfl)) rNil) (sm_nat (by omega))) a1) ?_
    have lz : (List.replicate l [cW (.two "knit" "a")]).flatten.length = l := by simp
    refine sRet_at (rPure (rOpF (st1 := st2) (st2 := st2) (x := .cell st.length) (y := .lst (List.replicate l [cW (.two "knit" "a")]).flatten) (rV rfl) (rPure (rOpF (st1 := st2) (st2 := st2) (x := .lst [cW (.two "knit" "a")]) (y := .int (l : Int)) (rPure (rLst (rCons (rTup (rCons rC (rCons rC rNil)) l2) rNil) l1)) (rV rfl) (oRep_at rfl ?_ (by omega)))) (oCat_at a2 rfl ?_)))
    · rw [List.length_singleton, Nat.one_mul]
      exact line_ge (by omega)
    · rw [lz, List.length_map]
      omega
  · intro c hc
    rcases List.mem_append.mp hc with hc | hc
    · exact a3 c hc
    · rw [List.eq_of_mem_replicate hc]
      exact ⟨.inl rfl, yok_a⟩
  · have : aft (cs ++ List.replicate l (Cmd.two "knit" "a")) = aft cs + l := by
      unfold aft
      rw [List.map_append, List.sum_append, List.map_replicate, List.sum_replicate_nat]
      show _ + l * 1 = _
      omega
    rw [this]
    omega
  · rw [List.length_append, List.length_replicate]
    omega
  · rw [tks_rep]
    have t0 : tks ([] : List Cmd) = 0 := rfl
    omega
def Cmd.kind : Cmd → Str
  | .join _ _ _ _ => "join"
  | .two k _ => k
  | .one k => k
theorem cW_kind (c : Cmd) : ∃ rest, cW c = .tup (.str c.kind :: rest) := by
  cases c <;> exact ⟨_, rfl⟩
theorem aft_kind {c : Cmd} (h : c.ok) : (if (!decide (c.kind = "drop")) = true then (1 : Int) else 0) = (c.aft : Int) := by
  cases c with
  | join n lean side y =>
    show (if (!decide (("join" : Str) = "drop")) = true then (1 : Int) else 0) = 1
    decide +kernel
  | one k =>
    rcases h with rfl | rfl <;> decide +kernel
  | two k y =>
    show (if (!decide (k = "drop")) = true then (1 : Int) else 0) = 1
    rcases h.1 with h | h | h <;> (rw [h]; decide +kernel)
theorem count_run {cs : List Cmd} (hok : ∀ c ∈ cs, c.ok) (hz : cs.length ≤ 1000) : m_count [.lst (cs.map cW)] st = .ok (.int (aft cs : Int)) st := by
  have lc : dLc (iL (dVar 0)) (gN 1) tYesW (dCallB cInt (dCons (dNe (dOp oIx (dVar 1) (dC (.int 0))) (dC (.str "drop"))) dNil)) [1] [some (.lst (cs.map cW)), none] st = .ok (cs.map fun c => W.int (c.aft : Int)) st := by
    refine rLc (rList (rV rfl)) ?_
    refine (lc_pure (u := cW) (e2 := fun c => [some (.lst (cs.map cW)), some (cW c)]) (p := fun _ => true) (f := fun c => W.int (c.aft : Int)) cs [] (fun c hc => ⟨rfl, rfl, ?_⟩) (by rw [List.length_nil]; omega)).trans ?_
    · obtain ⟨rest, hr⟩ := cW_kind c
      refine rCallB (rCons (w := .bl (!decide (c.kind = "drop"))) (rOp (x := .str c.kind) (y := .str "drop") (rOp (x := cW c) (y := .int 0) (rV rfl) rC (by rw [hr]; exact ix_at rfl (by decide) rfl)) rC (oNe_str _ _ _)) rNil) ?_
      rw [cInt_bl, aft_kind (hok c hc)]
    · rw [List.nil_append, List.filter_eq_self.mpr fun _ _ => rfl]
  have sm : cSum [.lst (cs.map fun c => W.int (c.aft : Int))] st = .ok (.int (aft cs : Int)) st := by
    have e : (cs.map fun c => W.int (c.aft : Int)) = ((cs.map fun c => (c.aft : Int)).map W.int) := by rw [List.map_map]; rfl
    unfold cSum
    simp only [lview_lst]
    rw [e, ints_at]
    have : (cs.map fun c => (c.aft : Int)).sum = (aft cs : Int) := sum_cast cs
    simp only [this]
  exact body_rt rfl (sRet_at (rCallB (rCons (rPure lc) rNil) sm))
end
end Sh


set_option maxRecDepth 100000
set_option maxHeartbeats 4000000
namespace Sh
open PySem L2 Evl
variable [Wd]
theorem lcGo_nx {ok : Store → Prop} {g : T} {tt : Env → M Bool} {te : Env → M W} {env e2 : Env} {w y : W} {ws acc : List W} {st st1 st2 : Store} (k : ok st) (h : g w env st = .ok e2 st1) (t : tt e2 st1 = .ok true st1) (e : te e2 st1 = .ok y st2) (l : acc.length ≤ 1023) :
    lcGo ok g tt te env (w :: ws) acc st = lcGo ok g tt te env ws (acc ++ [y]) st2 := by
  have lz : acc.length < sizeLine := Nat.lt_of_lt_of_le (show acc.length < 1024 by omega) (line_ge (Nat.le_refl _))
  rw [lcGo, if_pos k, h]
  show (tt e2 st1).nox.bind _ = _
  rw [t, show (Out.ok true st1).nox = .ok true st1 from rfl, Out.bind_ok, if_pos rfl, e, show (Out.ok y st2).nox = .ok y st2 from rfl, Out.bind_ok, if_pos lz]
theorem rngW_succ (lo : Int) (n : Nat) : rngW lo (n + 1) = .int lo :: rngW (lo + 1) n := by
  unfold rngW
  rw [List.range_succ_eq_map, List.map_cons, List.map_map]
  simp only [Int.natCast_zero, Int.add_zero]
  congr 1
  refine List.map_congr_left fun i _ => ?_
  simp only [Function.comp]
  congr 1
  omega
/-- lines of a chart -/
inductive Line where
  | work (d : Str) (cs : List Cmd) | move (ex : List (Int × Str))
def eW (e : Int × Str) : W := .tup [.int e.1, .str e.2]
def lW : Line → W
  | .work d cs => .tup [.str "work", .str d, .lst (cs.map cW)]
  | .move ex => .tup [.str "move", .lst (ex.map eW)]
def eOk (e : Int × Str) : Prop := (-1000 ≤ e.1 ∧ e.1 ≤ 1000) ∧ (e.2 = "left" ∨ e.2 = "right")
def Line.ok : Line → Prop
  | .work d cs => (d = "left" ∨ d = "right") ∧ (∀ c ∈ cs, c.ok) ∧ cs.length ≤ 320
  | .move ex => (∀ e ∈ ex, eOk e) ∧ ex.length ≤ 40
/-- the columns behind a line that fits -/
def Line.fits (c : Int) : Line → Int → Prop
  | .work _ cs, c' => tks cs = c ∧ c' = (aft cs : Int)
  | .move ex, c' => (∀ e ∈ ex, 0 ≤ e.1 ∧ e.1 + 1 < c) ∧ c' = c
inductive Fits' : Int → List Line → Int → Prop
  | nil (c : Int) : Fits' c [] c
  | snoc {c c1 c2 : Int} {ls : List Line} {l : Line} : Fits' c ls c1 → l.fits c1 c2 → Fits' c (ls ++ [l]) c2
section
variable {ns : List Int} {s r : Nat}
theorem tucks_run {te : Env → M W} (hte : te = dTup (dCons (dC (.str "tuck")) (dCons (dCall m_yarn (dCons (dVar 0) dNil)) dNil)) ) {env : Env} (h0 : env[0]? = some (some (.cell s))) : ∀ (n : Nat) (k : Int) (acc : List Cmd) (st st0 : Store), StOk ns st s → Fr s st0 st → acc.length + n ≤ 1000 → (∀ c ∈ acc, c.ok ∧ c.tks = 0 ∧ c.aft = 1) →
    ∃ (cs : List Cmd) (st' : Store), lcGo (fun _ => True) (gN 4) tYesW te env (rngW k n) (acc.map cW) st = .ok (cs.map cW) st' ∧ (∀ c ∈ cs, c.ok ∧ c.tks = 0 ∧ c.aft = 1) ∧ cs.length = acc.length + n ∧ StOk ns st' s ∧ Fr s st0 st'
  | 0, k, acc, st, st0, ok, f, hz, ha => ⟨acc, st, by simp [rngW, lcGo], ha, rfl, ok, f⟩
  | n + 1, k, acc, st, st0, ok, f, hz, ha => by
    obtain ⟨y, st1, y1, y2, y3, y4⟩ := yarn_run ok
    obtain ⟨cs, st2, b1, b2, b3, b4, b5⟩ := tucks_run hte h0 n (k + 1) (acc ++ [.two "tuck" y]) st1 st0 y3 (f.trans y4) (by rw [List.length_append, List.length_singleton]; omega) (fun c hc => by
      rcases List.mem_append.mp hc with hc | hc
      · exact ha c hc
      · rw [List.mem_singleton.mp hc]
        exact ⟨⟨.inr (.inr rfl), y2⟩, rfl, rfl⟩)
    refine ⟨cs, st2, ?_, b2, by rw [b3, List.length_append, List.length_singleton]; omega, b4, b5⟩
    have h0' : (env.set 4 (some (.int k)))[0]? = some (some (.cell s)) := by rw [List.getElem?_set_ne (by decide), h0]
    have l2 : (2 : Nat) ≤ sizeLine := line_ge (by decide)
    rw [rngW_succ, lcGo_nx (e2 := env.set 4 (some (.int k))) (st1 := st) (y := cW (.two "tuck" y)) (st2 := st1) True.intro rfl rfl (by rw [hte]; exact rTup (rCons rC (rCons (rCall (rCons (rV h0') rNil) y1) rNil)) l2) (by rw [List.length_map]; omega)]
    rw [List.map_append] at b1
    exact b1
noncomputable abbrev exBody : S := (sDrop (dBM tyL mAppend (dVar 6) (dCons (dTup (dCons (dCall m_take (dCons (dVar 0) (dCons (dSub (dVar 5) (dC (.int 1))) dNil))) (dCons (dOp oIx (dPure (dLst (dCons (dC (.str "left")) (dCons (dC (.str "right")) dNil)))) (dCall m_take (dCons (dVar 0) (dCons (dC (.int 2)) dNil)))) dNil))) dNil)))
abbrev hEnv (s r : Nat) (most lines : Int) (e4 : Option W) (count : Int) (e6 e7 e8 : Option W) : Env := [some (.cell s), some (.int most), some (.int lines), some (.cell r), e4, some (.int count), e6, e7, e8]
theorem ex_loop {x : Nat} {most lines count : Int} {e4 e8 : Option W} (hc : 1 < count) (hc2 : count ≤ 1000) (ne : x ≠ s) : ∀ (n : Nat) (k : Int) (acc : List (Int × Str)) (e7 : Option W) (st st0 : Store), StOk ns st s → Fr s st0 st → st0.length ≤ x → lcell st x = some (acc.map eW) → acc.length + n ≤ 40 → (∀ e ∈ acc, eOk e ∧ 0 ≤ e.1 ∧ e.1 + 1 < count) →
    ∃ (ex : List (Int × Str)) (e7' : Option W) (st' : Store), forGo (fun _ => True) (gN 7) exBody (rngW k n) (hEnv s r most lines e4 count (some (.cell x)) e7 e8) st = .nx (hEnv s r most lines e4 count (some (.cell x)) e7' e8) st' ∧ lcell st' x = some (ex.map eW) ∧ (∀ e ∈ ex, eOk e ∧ 0 ≤ e.1 ∧ e.1 + 1 < count) ∧ ex.length = acc.length + n ∧ StOk ns st' s ∧ Fr s st0 st' ∧ st.length ≤ st'.length
  | 0, k, acc, e7, st, st0, ok, f, h0, hx, hz, ha => ⟨acc, e7, st, forGo_nil True.intro, hx, ha, rfl, ok, f, Nat.le_refl _⟩
  | n + 1, k, acc, e7, st, st0, ok, f, h0, hx, hz, ha => by
    have lx := lcell_lt hx
    obtain ⟨v, st1, a1, a2, a3, a4, a5⟩ := tk_run (env := hEnv s r most lines e4 count (some (.cell x)) (some (.int k)) e8) (e := dSub (dVar 5) (dC (.int 1))) (k := count - 1) (st := st) rfl (rOp (rV rfl) rC rfl) ok (by omega) (by omega)
    obtain ⟨w2, st2, b1, b2, b3, b4⟩ := pick_run (env := hEnv s r most lines e4 count (some (.cell x)) (some (.int k)) e8) (dl := dCons (dC (.str "left")) (dCons (dC (.str "right")) dNil)) (xs := [.str "left", .str "right"]) (e := dC (.int 2)) rfl (rCons rC (rCons rC rNil)) rC a4 (by decide) (by decide)
    obtain ⟨o, rfl, ho⟩ : ∃ y : Str, w2 = .str y ∧ (y = "left" ∨ y = "right") := by
      simp only [List.mem_cons, List.not_mem_nil, or_false] at b1
      rcases b1 with rfl | rfl
      · exact ⟨_, rfl, .inl rfl⟩
      · exact ⟨_, rfl, .inr rfl⟩
    have f2 := a5.trans b4
    have hx2 : lcell st2 x = some (acc.map eW) := by rw [f2.cell ne lx, hx]
    have l2 : (2 : Nat) ≤ sizeLine := line_ge (by decide)
    have tb : exBody (hEnv s r most lines e4 count (some (.cell x)) (some (.int k)) e8) st = .nx (hEnv s r most lines e4 count (some (.cell x)) (some (.int k)) e8) (st2.set x (.lst (acc.map eW ++ [eW (v, o)]))) :=
      app_run rfl (rTup (rCons a1 (rCons b2 rNil)) l2) hx hx2 (by rw [List.length_map]; omega)
    obtain ⟨ex, g7, st3, c1, c2, c3, c4, c5, c6, c7⟩ := ex_loop hc hc2 ne n (k + 1) (acc ++ [(v, o)]) (some (.int k)) (st2.set x (.lst (acc.map eW ++ [eW (v, o)]))) st0 (b3.write ne) ((f.trans f2).write h0) h0 (by rw [lcell_set (Nat.lt_of_lt_of_le lx f2.len), List.map_append]; rfl) (by rw [List.length_append, List.length_singleton]; omega) (fun e he => by
      rcases List.mem_append.mp he with he | he
      · exact ha e he
      · rw [List.mem_singleton.mp he]
        exact ⟨⟨⟨by show -1000 ≤ v; omega, by show v ≤ 1000; omega⟩, ho⟩, a2, by show v + 1 < count; omega⟩)
    refine ⟨ex, g7, st3, ?_, c2, c3, by rw [c4, List.length_append, List.length_singleton]; omega, c5, c6, Nat.le_trans (by rw [List.length_set]; exact f2.len) c7⟩
    rw [rngW_succ, forGo_nx (env1 := hEnv s r most lines e4 count (some (.cell x)) (some (.int k)) e8) (st1 := st) True.intro rfl tb]
    exact c1
end
end Sh


set_option maxRecDepth 100000
set_option maxHeartbeats 4000000
namespace Sh
open PySem L2 Evl
variable [Wd]
theorem rFz {d : Env → M W} {env : Env} {st st1 : Store} {n : Nat} {xs : List W} (h : d env st = .ok (.cell n) st1) (k : lcell st1 n = some xs) : dFz d env st = .ok (.lst xs) (st1.set n .dead) := by
  unfold dFz
  rw [h, Out.bind_ok]
  unfold fz
  simp only [k]
noncomputable abbrev lineBody : S :=
  (sIf (dAnd (dB (dGt (dVar 5) (dC (.int 1)))) (dB (dEq (dCall m_take (dCons (dVar 0) (dCons (dC (.int 3)) dNil))) (dC (.int 1)))))
  (sSeq (sSet 6 (dCell (dLst dNil)))
  (sSeq (sFor (iR1 (dCons (dCall m_take (dCons (dVar 0) (dCons (dC (.int 4)) dNil))) dNil)) (gN 7)
  exBody)
  (sDrop (dBM tyL mAppend (dVar 3) (dCons (dTup (dCons (dC (.str "move")) (dCons (dFz (dVar 6)) dNil))) dNil)))))
  (sSeq (sSet 8 (dCall m_commands (dCons (dVar 0) (dCons (dVar 5) (dCons (dVar 1) dNil)))))
  (sSeq (sDrop (dBM tyL mAppend (dVar 3) (dCons (dTup (dCons (dC (.str "work")) (dCons (dOp oIx (dPure (dLst (dCons (dC (.str "right")) (dCons (dC (.str "left")) dNil)))) (dCall m_take (dCons (dVar 0) (dCons (dC (.int 2)) dNil)))) (dCons (dVar 8) dNil)))) dNil)))
  (sSet 5 (dCall m_count (dCons (dVar 8) dNil))))))
section
variable {ns : List Int} {s r : Nat} {st : Store} {most lines count : Int} {e4 e6 e7 e8 : Option W} {ls : List Line}
theorem line_turn (ok : StOk ns st s) (hr : lcell st r = some (ls.map lW)) (ne : r ≠ s) (h0 : 0 ≤ count) (h1 : count ≤ most) (h2 : most ≤ 100) (hz : ls.length ≤ 100) {st0 : Store} (f : Fr s st0 st) (hb : st0.length ≤ r) :
    ∃ (l : Line) (count' : Int) (e6' e7' e8' : Option W) (st' : Store), lineBody (hEnv s r most lines e4 count e6 e7 e8) st = .nx (hEnv s r most lines e4 count' e6' e7' e8') st' ∧ l.ok ∧ l.fits count count' ∧ lcell st' r = some ((ls ++ [l]).map lW) ∧ StOk ns st' s ∧ Fr s st0 st' ∧ 0 ≤ count' ∧ count' ≤ most := by
  have lr := lcell_lt hr
  have l0 : (0 : Nat) ≤ sizeLine := Nat.zero_le _
  have l2 : (2 : Nat) ≤ sizeLine := line_ge (by decide)
  have l3 : (3 : Nat) ≤ sizeLine := line_ge (by decide)
  -- a line of exchanges
  have mv : ∀ st1, StOk ns st1 s → Fr s st st1 → 1 < count → ∃ (l : Line) (e6' e7' : Option W) (st' : Store),
      (sSeq (sSet 6 (dCell (dLst dNil))) (sSeq (sFor (iR1 (dCons (dCall m_take (dCons (dVar 0) (dCons (dC (.int 4)) dNil))) dNil)) (gN 7) exBody) (sDrop (dBM tyL mAppend (dVar 3) (dCons (dTup (dCons (dC (.str "move")) (dCons (dFz (dVar 6)) dNil))) dNil))))) (hEnv s r most lines e4 count e6 e7 e8) st1 =
        .nx (hEnv s r most lines e4 count e6' e7' e8) st' ∧ l.ok ∧ l.fits count count ∧ lcell st' r = some ((ls ++ [l]).map lW) ∧ StOk ns st' s ∧ Fr s st0 st' := by
    intro st1 ok1 f1 hc
    have lr1 : r < st1.length := Nat.lt_of_lt_of_le lr f1.len
    have ls1 := ok1.lt
    obtain ⟨v, st3, a1, a2, a3, a4, a5⟩ := tk_run (env := hEnv s r most lines e4 count (some (.cell st1.length)) e7 e8) (e := dC (.int 4)) (st := st1 ++ [.lst []]) rfl rC ok1.app (by decide) (by decide)
    obtain ⟨n, rfl⟩ : ∃ n : Nat, v = (n : Int) := ⟨v.toNat, by omega⟩
    have fa : Fr s st1 st3 := Fr.trans Fr.app a5
    have hx3 : lcell st3 st1.length = some (([] : List (Int × Str)).map eW) := by rw [a5.cell (by omega) (by simp), lcell_new]; rfl
    obtain ⟨ex, g7, st4, b1, b2, b3, b4, b5, b6, b7⟩ := ex_loop (r := r) (most := most) (lines := lines) (e4 := e4) (e8 := e8) hc (by omega) (x := st1.length) (by omega) n 0 [] e7 st3 st1 a4 fa (Nat.le_refl _) hx3 (by simp; omega) (fun e he => by cases he)
    have nx : st1.length ≠ r := by omega
    have hr4 : lcell st4 r = some (ls.map lW) := by rw [b6.cell ne lr1, f1.cell ne lr, hr]
    have hr5 : lcell (st4.set st1.length .dead) r = some (ls.map lW) := by rw [lcell_set_ne nx, hr4]
    have lb : ls.length ≤ 1023 := by omega
    refine ⟨.move ex, some (.cell st1.length), g7, (st4.set st1.length .dead).set r (.lst (ls.map lW ++ [lW (.move ex)])), ?_, ⟨fun e he => (b3 e he).1, by rw [b4, List.length_nil]; omega⟩, ⟨fun e he => (b3 e he).2, rfl⟩, ?_, ?_, ?_⟩
    · refine sSeq_at (sSet_at (rCell (rLst rNil l0))) ?_
      refine sSeq_at (rFor (rR1 (n := n) (rCons a1 rNil) (sm_nat (by omega))) b1) ?_
      exact app_run rfl (rTup (rCons rC (rCons (rFz (rV rfl) b2) rNil)) l2) hr4 hr5 (by rw [List.length_map]; omega)
    · rw [lcell_set (by rw [List.length_set]; exact lcell_lt hr4), List.map_append]
      rfl
    · exact (b5.write (by omega)).write ne
    · exact (((f.trans f1).trans b6).write (by have := (f.trans f1).len; omega)).write hb
  -- a line of commands
  have wk : ∀ st1, StOk ns st1 s → Fr s st st1 → ∃ (l : Line) (count' : Int) (e8' : Option W) (st' : Store),
      (sSeq (sSet 8 (dCall m_commands (dCons (dVar 0) (dCons (dVar 5) (dCons (dVar 1) dNil)))))
        (sSeq (sDrop (dBM tyL mAppend (dVar 3) (dCons (dTup (dCons (dC (.str "work")) (dCons (dOp oIx (dPure (dLst (dCons (dC (.str "right")) (dCons (dC (.str "left")) dNil)))) (dCall m_take (dCons (dVar 0) (dCons (dC (.int 2)) dNil)))) (dCons (dVar 8) dNil)))) dNil)))
        (sSet 5 (dCall m_count (dCons (dVar 8) dNil))))) (hEnv s r most lines e4 count e6 e7 e8) st1 =
        .nx (hEnv s r most lines e4 count' e6 e7 e8') st' ∧ l.ok ∧ l.fits count count' ∧ lcell st' r = some ((ls ++ [l]).map lW) ∧ StOk ns st' s ∧ Fr s st0 st' ∧ 0 ≤ count' ∧ count' ≤ most := by
    intro st1 ok1 f1
    obtain ⟨cs, st2, a1, a2, a3, a4, a5, a6, a7⟩ := commands_run ok1 h0 h1 h2
    obtain ⟨w2, st3, b1, b2, b3, b4⟩ := pick_run (env := hEnv s r most lines e4 count e6 e7 (some (.lst (cs.map cW)))) (dl := dCons (dC (.str "right")) (dCons (dC (.str "left")) dNil)) (xs := [.str "right", .str "left"]) (e := dC (.int 2)) rfl (rCons rC (rCons rC rNil)) rC a5 (by decide) (by decide)
    obtain ⟨o, rfl, ho⟩ : ∃ y : Str, w2 = .str y ∧ (y = "left" ∨ y = "right") := by
      simp only [List.mem_cons, List.not_mem_nil, or_false] at b1
      rcases b1 with rfl | rfl
      · exact ⟨_, rfl, .inr rfl⟩
      · exact ⟨_, rfl, .inl rfl⟩
    have hr2 : lcell st2 r = some (ls.map lW) := by rw [(f1.trans a6).cell ne lr, hr]
    have hr3 : lcell st3 r = some (ls.map lW) := by rw [b4.cell ne (lcell_lt hr2), hr2]
    refine ⟨.work o cs, (aft cs : Int), some (.lst (cs.map cW)), st3.set r (.lst (ls.map lW ++ [lW (.work o cs)])), ?_, ⟨ho, a2, by omega⟩, ⟨a7, rfl⟩, ?_, b3.write ne, (((f.trans f1).trans a6).trans b4).write hb, by omega, a3⟩
    · refine sSeq_at (sSet_at (rCall (rCons (rV rfl) (rCons (rV rfl) (rCons (rV rfl) rNil))) a1)) ?_
      refine sSeq_at (app_run rfl (rTup (rCons rC (rCons b2 (rCons (rV rfl) rNil))) l3) hr2 hr3 (by rw [List.length_map]; omega)) ?_
      exact sSet_at (rCall (rCons (rV rfl) rNil) (count_run a2 (by omega)))
    · rw [lcell_set (lcell_lt hr3), List.map_append]
      rfl
  have gt1 : ∀ st, oGt (.int count) (.int 1) st = .ok (.bl (decide (1 < count))) st := fun st => rfl
  by_cases hc : 1 < count
  · obtain ⟨v, st1, a1, a2, a3, a4, a5⟩ := tk_run (env := hEnv s r most lines e4 count e6 e7 e8) (e := dC (.int 3)) (st := st) rfl rC ok (by decide) (by decide)
    have t : dAnd (dB (dGt (dVar 5) (dC (.int 1)))) (dB (dEq (dCall m_take (dCons (dVar 0) (dCons (dC (.int 3)) dNil))) (dC (.int 1)))) (hEnv s r most lines e4 count e6 e7 e8) st = .ok (decide (v = 1)) st1 :=
      rAndT (rB (rOp (rV rfl) rC ((gt1 st).trans (by rw [decide_eq_true hc])))) (rB (rOp a1 rC rfl))
    by_cases hv : v = 1
    · obtain ⟨l, e6', e7', st', b1, b2, b3, b4, b5, b6⟩ := mv st1 a4 a5 hc
      exact ⟨l, count, e6', e7', e8, st', sIf_t (t.trans (by rw [decide_eq_true hv])) b1, b2, b3, b4, b5, b6, h0, h1⟩
    · obtain ⟨l, count', e8', st', b1, b2, b3, b4, b5, b6, b7, b8⟩ := wk st1 a4 a5
      exact ⟨l, count', e6, e7, e8', st', sIf_f (t.trans (by rw [decide_eq_false hv])) b1, b2, b3, b4, b5, b6, b7, b8⟩
  · obtain ⟨l, count', e8', st', b1, b2, b3, b4, b5, b6, b7, b8⟩ := wk st ok (Fr.refl s st)
    exact ⟨l, count', e6, e7, e8', st', sIf_f (rAndF (rB (rOp (rV rfl) rC ((gt1 st).trans (by rw [decide_eq_false hc]))))) b1, b2, b3, b4, b5, b6, b7, b8⟩
theorem lines_loop : ∀ (n : Nat) (k : Int) (ls : List Line) (count : Int) (e4 e6 e7 e8 : Option W) (st st0 : Store), StOk ns st s → lcell st r = some (ls.map lW) → r ≠ s → 0 ≤ count → count ≤ most → most ≤ 100 → ls.length + n ≤ 100 → Fr s st0 st → st0.length ≤ r → (∀ l ∈ ls, l.ok) → Fits' 0 ls count →
    ∃ (ls' : List Line) (count' : Int) (e4' e6' e7' e8' : Option W) (st' : Store), forGo (fun _ => True) (gN 4) lineBody (rngW k n) (hEnv s r most lines e4 count e6 e7 e8) st = .nx (hEnv s r most lines e4' count' e6' e7' e8') st' ∧ lcell st' r = some (ls'.map lW) ∧ (∀ l ∈ ls', l.ok) ∧ Fits' 0 ls' count' ∧ ls'.length = ls.length + n ∧
      StOk ns st' s ∧ Fr s st0 st' ∧ 0 ≤ count' ∧ count' ≤ most
  | 0, k, ls, count, e4, e6, e7, e8, st, st0, ok, hr, ne, h0, h1, h2, hz, f, hb, hl, hf => ⟨ls, count, e4, e6, e7, e8, st, forGo_nil True.intro, hr, hl, hf, rfl, ok, f, h0, h1⟩
  | n + 1, k, ls, count, e4, e6, e7, e8, st, st0, ok, hr, ne, h0, h1, h2, hz, f, hb, hl, hf => by
    obtain ⟨l, c1, f6, f7, f8, st1, a1, a2, a3, a4, a5, a6, a7, a8⟩ := line_turn (lines := lines) (e4 := some (.int k)) (e6 := e6) (e7 := e7) (e8 := e8) ok hr ne h0 h1 h2 (by omega) f hb
    obtain ⟨ls2, c2, g4, g6, g7, g8, st2, b1, b2, b3, b4, b5, b6, b7, b8, b9⟩ := lines_loop n (k + 1) (ls ++ [l]) c1 (some (.int k)) f6 f7 f8 st1 st0 a5 a4 ne a7 a8 h2 (by rw [List.length_append, List.length_singleton]; omega) a6 hb (fun x hx => by
      rcases List.mem_append.mp hx with hx | hx
      · exact hl x hx
      · rw [List.mem_singleton.mp hx]
        exact a2) (hf.snoc a3)
    refine ⟨ls2, c2, g4, g6, g7, g8, st2, ?_, b2, b3, b4, by rw [b5, List.length_append, List.length_singleton]; omega, b6, b7, b8, b9⟩
    rw [rngW_succ, forGo_nx (env1 := hEnv s r most lines (some (.int k)) count e6 e7 e8) (st1 := st) True.intro rfl a1]
    exact b1
theorem tks_zero : ∀ {cs : List Cmd}, (∀ c ∈ cs, c.ok ∧ c.tks = 0 ∧ c.aft = 1) → tks cs = 0 ∧ aft cs = cs.length
  | [], _ => ⟨rfl, rfl⟩
  | c :: cs, h => by
    obtain ⟨a, b⟩ := tks_zero fun x hx => h x (List.mem_cons_of_mem _ hx)
    obtain ⟨_, h1, h2⟩ := h c List.mem_cons_self
    unfold tks aft at *
    rw [List.map_cons, List.sum_cons, List.map_cons, List.sum_cons, List.length_cons, h1, h2]
    exact ⟨by omega, by omega⟩
/-- a chart drawn: its lines fit -/
theorem chart_run (ok : StOk ns st s) (hm : 1 ≤ most) (hm2 : most ≤ 60) (hl : 1 ≤ lines) (hl2 : lines ≤ 60) :
    ∃ (ls : List Line) (c : Int) (st' : Store), m_chart [.cell s, .int most, .int lines] st = .ok (.lst (ls.map lW)) st' ∧ (∀ l ∈ ls, l.ok) ∧ Fits' 0 ls c ∧ 1 ≤ ls.length ∧ (ls.length : Int) ≤ lines ∧ StOk ns st' s ∧ Fr s st st' := by
  have ls0 := ok.lt
  have l1 : (1 : Nat) ≤ sizeLine := line_ge (by decide)
  have l3 : (3 : Nat) ≤ sizeLine := line_ge (by decide)
  obtain ⟨v, st1, a1, a2, a3, a4, a5⟩ := tk_run (env := [some (.cell s), some (.int most), some (.int lines), none, none, none, none, none, none]) (e := dVar 1) (st := st) rfl (rV rfl) ok (by omega) (by omega)
  obtain ⟨n, hn⟩ : ∃ n : Nat, (n : Int) = v + 1 := ⟨(v + 1).toNat, by omega⟩
  obtain ⟨cs, st2, b1, b2, b3, b4, b5⟩ := tucks_run (te := dTup (dCons (dC (.str "tuck")) (dCons (dCall m_yarn (dCons (dVar 0) dNil)) dNil))) rfl (env := [some (.cell s), some (.int most), some (.int lines), none, none, none, none, none, none]) rfl n 0 [] st1 st a4 a5 (by simp; omega) (fun c hc => by cases hc)
  rw [List.length_nil, Nat.zero_add] at b3
  obtain ⟨z1, z2⟩ := tks_zero b2
  generalize hl0 : Line.work "right" cs = l0
  have f0 : Fits' 0 [l0] (n : Int) := by
    have q : l0.fits 0 (n : Int) := by
      rw [← hl0]
      exact ⟨z1, by rw [z2, b3]⟩
    exact (Fits'.nil 0).snoc q
  have k0 : l0.ok := by
    rw [← hl0]
    exact ⟨.inr rfl, fun c hc => (b2 c hc).1, by omega⟩
  have lw : lW l0 = .tup [.str "work", .str "right", .lst (cs.map cW)] := by rw [← hl0]; rfl
  have hr : lcell (st2 ++ [.lst [lW l0]]) st2.length = some ([l0].map lW) := lcell_new
  have fr2 : Fr s st (st2 ++ [.lst [lW l0]]) := b5.trans Fr.app
  have ls2 := b4.lt
  obtain ⟨u, st3, c1, c2, c3, c4, c5⟩ := tk_run (env := hEnv s st2.length most lines none (n : Int) none none none) (e := dVar 2) (st := st2 ++ [.lst [lW l0]]) rfl (rV rfl) b4.app (by omega) (by omega)
  obtain ⟨k, rfl⟩ : ∃ k : Nat, u = (k : Int) := ⟨u.toNat, by omega⟩
  have hr3 : lcell st3 st2.length = some ([l0].map lW) := by rw [c5.cell (by omega) (by simp), hr]
  obtain ⟨ls, c', g4, g6, g7, g8, st4, d1, d2, d3, d4, d5, d6, d7, d8, d9⟩ := lines_loop (most := most) (lines := lines) k 0 [l0] (n : Int) none none none none st3 st c4 hr3 (by omega) (by omega) (by omega) (by omega) (by simp; omega) (fr2.trans c5) b5.len (fun l hl => by rw [List.mem_singleton.mp hl]; exact k0) f0
  rw [List.length_singleton] at d5
  have ln : ∀ st, cLen [.lst (cs.map cW)] st = .ok (.int (n : Int)) st := fun st => by rw [cLen_at (w := .lst (cs.map cW)) rfl, List.length_map, b3]
  refine ⟨ls, c', st4.set st2.length .dead, body_rt rfl ?_, d3, d4, by omega, by omega, d6.write (by omega), d7.write b5.len⟩
  have e3 : sSet 3 (dCell (dLst (dCons (dTup (dCons (dC (.str "work")) (dCons (dC (.str "right")) (dCons (dPure (dLc (iR1 (dCons (dAdd (dCall m_take (dCons (dVar 0) (dCons (dVar 1) dNil))) (dC (.int 1))) dNil)) (gN 4) tYesW (dTup (dCons (dC (.str "tuck")) (dCons (dCall m_yarn (dCons (dVar 0) dNil)) dNil))) [4])) dNil)))) dNil)))
      [some (.cell s), some (.int most), some (.int lines), none, none, none, none, none, none] st = .nx [some (.cell s), some (.int most), some (.int lines), some (.cell st2.length), none, none, none, none, none] (st2 ++ [.lst [lW l0]]) := by
    rw [lw]
    exact sSet_at (rCell (rLst (rCons (rTup (rCons rC (rCons rC (rCons (rPure (rLc (rR1 (n := n) (rCons (rOp (x := .int v) (y := .int 1) a1 rC (by rw [hn]; rfl)) rNil) (sm_nat (by omega))) b1)) rNil))) l3) rNil) l1))
  have i0 : oIx (.cell st2.length) (.int 0) (st2 ++ [.lst [lW l0]]) = .ok (lW l0) (st2 ++ [.lst [lW l0]]) := ix_at (w := .cell st2.length) hr (by decide) rfl
  have i2 : oIx (lW l0) (.int 2) (st2 ++ [.lst [lW l0]]) = .ok (.lst (cs.map cW)) (st2 ++ [.lst [lW l0]]) := by
    generalize st2 ++ [C.lst [lW l0]] = sx
    rw [lw]
    exact ix_at rfl (by decide) rfl
  have e5 : sSet 5 (dCallB cLen (dCons (dOp oIx (dOp oIx (dVar 3) (dC (.int 0))) (dC (.int 2))) dNil)) [some (.cell s), some (.int most), some (.int lines), some (.cell st2.length), none, none, none, none, none] (st2 ++ [.lst [lW l0]]) =
      .nx (hEnv s st2.length most lines none (n : Int) none none none) (st2 ++ [.lst [lW l0]]) := sSet_at (rCallB (rCons (rOp (rOp (rV rfl) rC i0) rC i2) rNil) (ln _))
  unfold b_chart
  refine sSeq_at e3 (sSeq_at e5 ?_)
  refine sSeq_at (rFor (rR1 (n := k) (rCons c1 rNil) (sm_nat (by omega))) d1) ?_
  exact sRet_at (rFz (rV rfl) d2)
end
end Sh


set_option maxRecDepth 100000
set_option maxHeartbeats 2000000
/-! Errors as values: made by C(..), kept in lists, their fields, isinstance. -/
namespace L2
open PySem PySem.Spec PyProof.Rows
/-- C(e, ..) as a value -/
def tNewO (C : Addr) (sp : Sp) (ta : TA) : TE := fun σ H Q => ta σ H fun vs H1 => vs.length ≤ 1000 ∧
  ∀ a, H1 a = none → sp (.ref a :: (vs ++ [])) (upd H1 a (exo a C none)) (fun v H2 => v = .non ∧ Q (.ref a) H2) (fun _ _ _ => False)
section
variable {X : Cx} {e : Expr} {es : List Expr} {ta : TA} {p pos : Pos}
theorem pe_newO {CX : CXT} {x : Str} {C fI : Addr} {k : Nat} {fd : FuncData} {ps : List Str} {sp : Sp} (T : OexC X.K C) (i1 : PySem.W.findIn X.K (.ref C) "__init__" = some (some (.ref fI)))
    (i2 : PySem.W.typeIn X.K (.ref fI) = some (.type "function")) (F1 : FnOk X.prog X.w X.K X.mg X.base CX k fI fd ps sp) (hr : Room (k + 1) X.A) (bi : Binds X.K fd ps []) (ps0 : Passes CX X (fun _ _ _ => False)) (hg : Gl X x)
    (hm : X.mg x = some (.ref C)) (ha : PA X (e :: es) ta) (hdb : (x == ("__debug__" : Str)) = false) (he : starEach (e :: es) X.env = (false, eval e X.env) :: starEach es X.env)
    (hpl : (backTo pos (starEach es X.env)).any (·.1) = false) : PE X (.Call (.Name x p) (e :: es) [] pos) (tNewO C sp ta) := by
  constructor
  intro pins s σ H Q I h
  rcases T.cls with ⟨n1, n2, n3, n4, vm, n5, n6, n7, n8, n9, n10, n11, n12, n13, n14, hL, hV⟩
  refine wpAny_Call_Name_kw (ld_glob I hg hm ?_ hdb)
  refine PySem.W.callWith_K (h₀ := X.base) I.ok.mod.kin T.kC (thn (ha.run pos pins s σ H _ I h) fun us s1 hh => ?_) he hpl
  rcases hh with ⟨vs, H1, I1, rr, hz, q1⟩
  refine ⟨I1.kIn, ?_⟩
  show wpAny _ _ (call (.ref C) us) _ _ _
  rcases s1 with ⟨hp, gg, dr, tk, os⟩
  have sz : hp.objs.size ≤ hp.objs.size + 1 := Nat.le_succ _
  have go := q1 _ (I1.hok.fresh sz)
  have new : ((hp.push (PySem.W.kdv_tup us)).push (PySem.HandSPX.excO C hp.objs.size)).get? (hp.objs.size + 1) = some (PySem.HandSPX.excO C hp.objs.size) := by heap_get
  have I2 := I1.laid (t' := tk) (h' := (hp.push (PySem.W.kdv_tup us)).push (PySem.HandSPX.excO C hp.objs.size)) (a := hp.objs.size + 1) (o := exo (hp.objs.size + 1) C none) (fun b o z => Heap.get?_push_of_some _ (Heap.get?_push_of_some _ z)) sz (exo_ok new)
  have rr2 : Vals (V.ref (hp.objs.size + 1) :: (vs ++ [])) (Value.ref (hp.objs.size + 1) :: (us ++ [])) := .cons rfl (rr.append .nil)
  have ln : (Value.ref (hp.objs.size + 1) :: us ++ []).length = ps.length := rr2.length.symm.trans (F1.len _ _ _ _ go)
  have us1 : us.length ≤ sizeLine := by
    have z := Paired.length rr
    rw [sizeLine_eq]; omega
  have bb := bi _ (Value.ref (hp.objs.size + 1) :: us) I2.kIn ln
  rw [List.cons_append] at bb
  have bo := F1.run _ X.stack _ _ ⟨Value.ref (hp.objs.size + 1) :: us, []⟩ (Value.ref (hp.objs.size + 1) :: (us ++ [])) _ _ (fun _ _ _ => False) (hr.make C us []) (I2.env0.make C us []) bb rr2 go
  refine wpAny_call (PySem.HandSPX.call_own F.excBase_ValueError (fun Y => PySem.HandSPX.refsVE_contains Y vm hV) (I1.kIn _ _ hL) (PySem.W.looks_findIn I1.kIn i1) (fun self => PySem.W.bind_fn I1.kIn self i2) us1 (codeAny_mono bo fun r s' z => ?_))
  match r, z with
  | .error er, z => exact ps0 pins σ _ _ er s' I2 z
  | .ok (.ret u), z =>
    rcases z with ⟨v, H2, os2, bare2, un2, hok2, rv, ev, q2⟩
    subst ev
    exact ⟨rv, ⟨.ref (hp.objs.size + 1), H2, I2.call' os2 un2 hok2 bare2 (fun b z => absurd z (by simp)), rfl, q2⟩⟩
  | .ok .next, z => exact z.elim
  | .ok .brk, z => exact z.elim
  | .ok .cont, z => exact z.elim
end
end L2
namespace L2
open PySem PySem.Spec PyProof.Rows
/-- a field of an error that is a value -/
def tXg (K : PySem.W.Frag) (f : Str) (te : TE) : TE := fun σ H Q => te σ H fun x H1 => ∃ (a C dd : Addr) (fs : List (Str × V)) (v : V), x = .ref a ∧ XfC K C ∧ PySem.W.findIn K (.ref C) f = some none ∧
  H1 a = some (exo a C (some dd)) ∧ H1 dd = some (exd dd fs) ∧ fs.lookup f = some v ∧ Q v H1
/-- isinstance of it -/
def rIsO (K : PySem.W.Frag) : List V → Hp → VK → Prop := fun xs H Q => ∃ (a C dd : Addr) (fs : List (Str × V)) (c : V) (cv : Value) (b : Bool), xs = [V.ref a, c] ∧ (∀ u : Value, RelV c u → u = cv) ∧
  ExcC K C ∧ (PySem.W.clsIn K C).isSome = true ∧ PySem.W.kitOne K (.ref C) cv = some b ∧ H a = some (exo a C (some dd)) ∧ H dd = some (exd dd fs) ∧ Q (.bl b) H
section
variable {X : Cx} {e : Expr} {te : TE} {pos : Pos} {f : Str}
theorem pe_xg (he : PE X e te) (hb : attributeBase e f X.env (eval e X.env) = eval e X.env) : PE X (.Attribute e f pos) (tXg X.K f te) := by
  constructor
  intro pins s σ H Q I h
  refine attr_of hb (thn (he.run pins s σ H _ I h) fun u s1 hh => ?_)
  rcases hh with ⟨x, H1, I1, rx, a, C, dd, fs, v, ex, T, hno, ea, ed, l, q⟩
  subst ex
  cases (show u = Value.ref a from rx)
  obtain ⟨t1, ho⟩ := exo_at I1.hok ea
  obtain ⟨mA, hns, hr⟩ := exd_at I1.hok ed
  obtain ⟨od, hod, hl⟩ := lookIn_ns hns
  obtain ⟨u, hu, ru⟩ := RelO.some_of (v := v) (o := mA f) (by rw [← l]; exact hr f)
  have J : PySem.W.InstAt s1.heap a _ C (some od) := ⟨ho, rfl, rfl, hod⟩
  exact HandSPX.exc_get I1.kIn J T.ga T.gg T.exC (PySem.W.findObj_own T.hdC hno rfl (by rw [hl, hu])) (handed_of ru) ⟨v, H1, I1.tok _, ru, q⟩
theorem cr_isO : CallR X (.builtin "isinstance") (rIsO X.K) := by
  intro pins s σ H xs us Q I r h
  rcases h with ⟨a, C, dd, fs, c, cv, b, rfl, hcv, T, hc, hk, ea, ed, q⟩
  match us, r with
  | [u1, u2], .cons r1 (.cons r2 .nil) =>
    cases (show u1 = Value.ref a from r1)
    cases hcv _ r2
    obtain ⟨t1, ho⟩ := exo_at I.hok ea
    obtain ⟨mA, hns, hr⟩ := exd_at I.hok ed
    obtain ⟨od, hod, hl⟩ := lookIn_ns hns
    have J : PySem.W.InstAt s.heap a _ C (some od) := ⟨ho, rfl, rfl, hod⟩
    exact PySem.W.kia_one (PySem.W.kitx_exc (od := some od) hc T.hg T.hk T.hs T.ha T.hn T.ht T.hm) I.kIn J hk (fun z => by cases z) fun tk => ⟨.bl b, H, I.tok _, rfl, q⟩
end
end L2
namespace Sh
open PySem L2 Evl
variable [Wd]
theorem zip_rev {α β : Type} : ∀ (xs : List α) (ys : List β), xs.length = ys.length → xs.reverse.zip ys.reverse = (xs.zip ys).reverse
  | [], ys, _ => by rw [List.zip_nil_left]; rfl
  | x :: xs, [], h => by cases h
  | x :: xs, y :: ys, h => by
    have h' : xs.length = ys.length := by simpa using h
    rw [List.reverse_cons, List.reverse_cons, List.zip_cons_cons, List.reverse_cons, ← zip_rev xs ys h']
    exact List.zip_append (by rw [List.length_reverse, List.length_reverse]; exact h')
def dNewX (x : Str) (fs : List Str) (ds : Env → M (List W)) : Env → M W := fun env st => (ds env st).bind fun ws st => if ws.length = fs.length ∧ ws.length ≤ 1000 then .ok (.xob x fs.reverse ws.reverse) st else .stuck
section
variable {X : Cx} {E : XK} {a b e : Expr} {es : List Expr} {da d : Env → M W} {ds : Env → M (List W)} {pos p p2 : Pos} {k j : Nat} {x f : Str} {fs : List Str} {Cl : Addr}
theorem je_newX (T : ExCls X.prog X.w X.K X.mg X.base k x fs Cl) (hn : PySem.W.nsIn X.K mainGlobals x = some (some (.ref Cl))) (hr : Room j X.A) (ha : JA X E (e :: es) ds) (hj : k + 1 ≤ j := by decide) (hg : Gl X x := by rfl)
    (hdb : (x == ("__debug__" : Str)) = false := by decide) (he : starEach (e :: es) X.env = (false, eval e X.env) :: starEach es X.env := by rfl) (hpl : (backTo pos (starEach es X.env)).any (·.1) = false := by rfl) :
    JE X E (.Call (.Name x p) (e :: es) [] pos) (dNewX x fs ds) := by
  obtain ⟨g, ox, fI, fd, i1, i2, i3, i4⟩ := T
  refine weakE (pe_newO ox i1 i2 i4 (hr.mono hj) i3 (fun _ _ _ _ _ _ _ h => h.elim) hg g ha hdb he hpl) ?_
  rintro σ H Q ⟨F, G, m, env, st, S, R, P⟩
  refine ⟨F, G, m, env, st, S, R, (P.bind (R := RA)).imp fun vs H1 ⟨G1, m1, ws, st1, e1, S1, r1, P1⟩ => ?_⟩
  split at P1
  · rename_i z
    have hl := r1.length
    refine ⟨by omega, fun a ha => ⟨a, vs ++ [], rfl, by rw [List.append_nil, ← hl]; exact z.1, upd_same, fun d H2 hd hne h2a h2d h2o => ⟨rfl, ?_⟩⟩⟩
    rw [List.append_nil] at h2d
    have hd1 : H1 d = none := by rw [upd_ne hne] at hd; exact hd
    have hh : H2 = upd (upd H1 a (exo a Cl (some d))) d (exd d (fs.zip vs).reverse) := by
      funext b
      by_cases b1 : b = d
      · rw [b1, upd_same, h2d]
      · rw [upd_ne b1]
        by_cases b2 : b = a
        · rw [b2, upd_same, h2a]
        · rw [upd_ne b2, h2o b b2 b1, upd_ne b2]
    rw [hh]
    have S2 := S1.newG (o := exo a Cl (some d)) ha
    have hd2 : upd H1 a (exo a Cl (some d)) d = none := by rw [upd_ne hne]; exact hd1
    have e2 := (Ext.new (o := exo a Cl (some d)) (m := m1) (fresh_back S1.ex ha)).trans (Ext.new (o := exd d (fs.zip vs).reverse) (fresh_back S2.ex hd2))
    refine (P1.mono e2).ret (S2.newG hd2) (.xob hn (a := a) (dd := d) ?_ ?_ (RWs.reverse (RWs.mono e2 r1)))
    · rw [upd_ne (Ne.symm hne), upd_same]
    · rw [upd_same, zip_rev _ _ (by omega)]
  · exact P1.elim
/-- e.f of an error -/
def dXg (cs : List Str) (f : Str) (d : Env → M W) : Env → M W := fun env st => (d env st).bind fun w st => match w with
  | .xob x ns ws => if x ∈ cs then (match List.lookup f (ns.zip ws) with
    | some u => .ok u st
    | none => .stuck) else .stuck
  | _ => .stuck
theorem je_xg {cs : List Str} (T : ∀ x ∈ cs, ∀ C, PySem.W.nsIn X.K mainGlobals x = some (some (.ref C)) → XfC X.K C ∧ PySem.W.findIn X.K (.ref C) f = some none) (he : JE X E e d)
    (hb : attributeBase e f X.env (eval e X.env) = eval e X.env := by rfl) : JE X E (.Attribute e f pos) (dXg cs f d) := by
  refine weakE (pe_xg he hb) ?_
  rintro σ H Q ⟨F, G, m, env, st, S, R, P⟩
  refine ⟨F, G, m, env, st, S, R, (P.bind (R := RW)).imp fun v H1 ⟨G1, m1, w, st1, e1, S1, r1, P1⟩ => ?_⟩
  split at P1
  · rename_i x ns ws
    split at P1
    · rename_i z
      split at P1
      · rename_i u q
        cases r1 with
        | xob k h g rs =>
          obtain ⟨v, h1, h2⟩ := lookup_zip rs q
          obtain ⟨t1, t2⟩ := T _ z _ k
          exact ⟨_, _, _, _, v, rfl, t1, t2, S1.ex _ _ h, S1.ex _ _ g, h1, P1.ret S1 h2⟩
      · exact P1.elim
    · exact P1.elim
  · exact P1.elim
/-- isinstance of an error: told by a table -/
def dIsO (tab : List (Str × Bool)) (d : Env → M W) : Env → M W := fun env st => (d env st).bind fun w st => match w with
  | .xob x ns ws => (match List.lookup x tab with
    | some b => .ok (.bl b) st
    | none => .stuck)
  | _ => .stuck
def IsTab (K : PySem.W.Frag) (tab : List (Str × Bool)) (cv : Value) : Prop :=
  ∀ x b, List.lookup x tab = some b → ∀ C, PySem.W.nsIn K mainGlobals x = some (some (.ref C)) → L2.ExcC K C ∧ (PySem.W.clsIn K C).isSome = true ∧ PySem.W.kitOne K (.ref C) cv = some b
theorem je_isO {tab : List (Str × Bool)} {T2 : Str} {cv : Value} {c : V} (T : IsTab X.K tab cv) (hg : Gl X "isinstance") (hm : X.mg "isinstance" = none) (hc2 : PE X (.Name T2 p2) (tC c)) (hcv : ∀ u : Value, RelV c u → u = cv) (he : JE X E e d)
    (he1 : starEach [e, .Name T2 p2] X.env = (false, eval e X.env) :: starEach [.Name T2 p2] X.env := by rfl) (he2 : starEach [.Name T2 p2] X.env = (false, eval (.Name T2 p2) X.env) :: starEach [] X.env := by rfl)
    (hpl : (backTo pos (starEach [.Name T2 p2] X.env)).any (·.1) = false := by rfl) : JE X E (.Call (.Name "isinstance" p) [e, .Name T2 p2] [] pos) (dIsO tab d) := by
  refine weakE (pe_callB cr_isO hg hm (by decide +kernel) (pa_cons he (pa_cons hc2 pa_nil he2) he1) (by decide) (by decide) he1 hpl) ?_
  rintro σ H Q ⟨F, G, m, env, st, S, R, P⟩
  refine ⟨F, G, m, env, st, S, R, (P.bind (R := RW)).imp fun v H1 ⟨G1, m1, w, st1, e1, S1, r1, P1⟩ => ?_⟩
  split at P1
  · rename_i x ns ws
    split at P1
    · rename_i b q
      cases r1 with
      | xob k h g rs =>
        obtain ⟨t1, t2, t3⟩ := T _ _ q _ k
        exact ⟨_, _, _, _, c, cv, b, rfl, hcv, t1, t2, t3, S1.ex _ _ h, S1.ex _ _ g, P1.ret S1 (.bl b)⟩
    · exact P1.elim
  · exact P1.elim
instance (i j : Int) : Decidable (CPow i j) := by unfold CPow; infer_instance
theorem je_pow {b : Expr} {db : Env → M W} (ha : JE X E a da) (hb : JE X E b db) : JE X E (.BinOp a .Pow b pos) (dOp (oIC CPow fun i j => .int (i ^ j.toNat)) da db) := je_op op_pow (ok_IC fun i j _ _ => .int _) ha hb
end
theorem kit_ownF {K : PySem.W.Frag} {C D : Addr} (i : PySem.W.isClsIn K D = true) (ty : PySem.W.typeIn K (.ref D) = some (.type "type")) (s1 : PySem.W.subIn K (.ref C) (.ref C) = some true) (s : PySem.W.subIn K (.ref C) (.ref D) = some false) :
    PySem.W.kitOne K (.ref C) (.ref D) = some false := by
  unfold PySem.W.kitOne
  split
  · rename_i q
    have e : C = D := Value.ref.inj (beq_iff_eq.mp q)
    rw [← e, s1] at s
    cases s
  · exact kitCls_own i ty s
theorem kit_biF {K : PySem.W.Frag} {C : Addr} {T : String} (m : PySem.W.kitMeta T = true) (s : PySem.W.subIn K (.ref C) (.type T) = some false) : PySem.W.kitOne K (.ref C) (.type T) = some false := by
  unfold PySem.W.kitOne
  split
  · rename_i q
    cases (beq_iff_eq.mp q : Value.ref C = .type T)
  · exact (if_pos m).trans s
section
variable {K : PySem.W.Frag} {cv : Value} {tab : List (Str × Bool)} {x : Str} {b : Bool} {C0 : Addr} {f : Str} {cs : List Str}
theorem istab_nil : IsTab K [] cv := fun x b h => nomatch h
theorem istab_cons (hn : PySem.W.nsIn K mainGlobals x = some (some (.ref C0))) (h1 : L2.ExcC K C0) (h2 : (PySem.W.clsIn K C0).isSome = true) (h3 : PySem.W.kitOne K (.ref C0) cv = some b) (h : IsTab K tab cv) : IsTab K ((x, b) :: tab) cv := by
  intro y c hl C hC
  rw [List.lookup_cons] at hl
  by_cases q : (y == x) = true
  · rw [q] at hl
    cases hl
    cases eq_of_beq q
    rw [hn] at hC
    cases hC
    exact ⟨h1, h2, h3⟩
  · rw [Bool.not_eq_true] at q
    rw [q] at hl
    exact h y c hl C hC
theorem xg_nil : ∀ x ∈ ([] : List Str), ∀ C, PySem.W.nsIn K mainGlobals x = some (some (.ref C)) → XfC K C ∧ PySem.W.findIn K (.ref C) f = some none := fun x h => nomatch h
theorem xg_cons (hn : PySem.W.nsIn K mainGlobals x = some (some (.ref C0))) (h1 : XfC K C0) (h2 : PySem.W.findIn K (.ref C0) f = some none)
    (h : ∀ x ∈ cs, ∀ C, PySem.W.nsIn K mainGlobals x = some (some (.ref C)) → XfC K C ∧ PySem.W.findIn K (.ref C) f = some none) :
    ∀ y ∈ x :: cs, ∀ C, PySem.W.nsIn K mainGlobals y = some (some (.ref C)) → XfC K C ∧ PySem.W.findIn K (.ref C) f = some none := by
  intro y hy C hC
  rcases List.mem_cons.mp hy with rfl | hy
  · rw [hn] at hC
    cases hC
    exact ⟨h1, h2⟩
  · exact h y hy C hC
end
end Sh


set_option maxRecDepth 100000
set_option maxHeartbeats 4000000
/-! sorted(set(xs)) of whole numbers. -/
namespace L2
open PySem PySem.Spec PyProof.Rows
/-- the set as it is made first -/
def bareSet (w : World) : Obj := { cls := .type "set", dict := none, data := .set #[] 0 (.fresh 0 0 (!w.params.followText "set-order")) }
section
variable {P : Program} {w : World} {A : Around} {E : Value → Shared → Prop} {s : Shared}
/-- set(l): the inner loop over the list -/
theorem fill_list {a l : Addr} {vs : Array Value} {ns : List Int} {R : Result → Shared → Prop} {h0 : Heap} {g : Array GenState} {dr : Drawn} {tk : Nat} {os : OsState} (hh : A.handled = none) (hl : h0.IsList l vs) (hi : IntsAre vs.toList ns) (hb : ns.length + 1 < scanBound)
    (ha : h0.get? a = some (bareSet w)) (hla : l ≠ a)
    (k : ∀ (h' : Heap) (tk' c : Nat), SetR w h' a (fun j => decide (j ∈ ns)) c → c ≤ ns.length → (∀ b o, b ≠ a → h0.get? b = some o → h'.get? b = some o) → R (.ok (.ret .none)) ⟨h', g, dr, tk', os⟩) :
    codeAny (model P w) A (.builtin "set.update.loop" ⟨[.ref a, .ref h0.objs.size], []⟩) R ⟨h0.push { cls := .type "list_iterator", data := .fields #[.ref l, .int 0 0] }, g, dr, tk, os⟩ := by
  have sz : vs.size = ns.length := by
    have z := IntsAre.length hi
    rwa [Array.length_toList] at z
  have ll : l < h0.objs.size := let ⟨o, ho, _⟩ := hl; Heap.lt_size ho
  have al : a < h0.objs.size := Heap.lt_size ha
  have nf : a ∉ [h0.objs.size, l] := fun z => by
    rcases List.mem_cons.mp z with z | z
    · exact Nat.ne_of_lt al z
    · exact hla (List.mem_singleton.mp z).symm
  have it : ∀ (i : Nat) (v : Value), vs[i]? = some v → ∃ k t, ns[i]? = some k ∧ v = .int k t := by
    intro i v hv
    have hi' : i < ns.length := sz ▸ (Array.getElem?_eq_some_iff.mp hv).1
    obtain ⟨t, e⟩ := IntsAre.int_at hi i v (by rw [Array.getElem?_toList]; exact hv)
    exact ⟨ns[i], t, List.getElem?_eq_getElem hi', by rw [e, List.getD_eq_getElem?_getD, List.getElem?_eq_getElem hi'] <;> rfl⟩
  have h1 : A.in1.handled = none := by simp [hh]
  have W := (Walks.list (prog := P) (w := w) h1 h0.objs.size l (Nat.ne_of_lt ll) vs).toS
  refine set_update_ints W a nf ns sz hb it vs.size 0 _ rfl (Nat.zero_le _) ⟨⟨_, Heap.get?_push_size _ rfl, rfl, rfl⟩, hl.push _⟩ ⟨0, Nat.le_refl 0, setR_new_at (Heap.get?_push_of_some _ ha)⟩ fun s2 c hm hc hS => ?_
  rcases s2 with ⟨h2, g2, d2, t2, o2⟩
  have e1 : g2 = g := hm.gens
  have e2 : d2 = dr := hm.drawn
  have e3 : o2 = os := hm.os
  subst e1 e2 e3
  refine k h2 t2 c hS (by omega) fun b o nb e => hm.heap b o ?_ (Heap.get?_push_of_some _ e)
  intro z
  rcases List.mem_cons.mp z with z | z
  · exact nb z
  · exact Nat.ne_of_lt (Heap.lt_size e) (List.mem_singleton.mp z)
set_option maxHeartbeats 8000000 in
theorem call_set_lst {l : Addr} {vs : Array Value} (ns : List Int) {Q : Value → Shared → Prop} (hh : A.handled = none) (hl : s.heap.IsList l vs) (hi : IntsAre vs.toList ns) (hb : ns.length + 1 < scanBound)
    (hq : ∀ (h' : Heap) (tk c : Nat), SetR w h' s.heap.objs.size (fun j => decide (j ∈ ns)) c → c ≤ ns.length → (∀ b o, s.heap.get? b = some o → h'.get? b = some o) → Q (.ref s.heap.objs.size) { s with heap := h', toks := tk }) :
    wpAny (model P w) A (call (.type "set") [.ref l]) Q E s := by
  obtain ⟨mc, mt, mr⟩ := F.called_set.mro
  have q1 := F.called_set.made
  have q2 := F.called_set.sub
  have q3 := F.called_set.notType
  have q4 := F.called_set.canCreate
  have q5 := F.typeCall_set_1 (.ref l)
  refine wpAny_call (codeAny_of_tree (show wpAny _ _ (callAny (.type "set") _) _ _ _ from wpAny_pure ⟨Code.quiet_builtin _ (by decide +kernel), codeAny_builtin F.entry_type_call ?_⟩))
  rw [Around.under_plain (weight_type_call_type "set" [.ref l] []) rfl]; repeat (any_goals (first | assumption | wp_step))
  refine codeAny_mono (code_set_led1 (.ref l) (E := E) (Q₁ := fun ob s1 => ob = .ref s.heap.objs.size ∧ s1 = { s with heap := s.heap.push (bareSet w) }) ⟨rfl, rfl⟩) fun r s1 z => ?_
  match r, z with
  | .error _, z => exact z
  | .ok .next, z => exact z.elim
  | .ok .brk, z => exact z.elim
  | .ok .cont, z => exact z.elim
  | .ok (.ret ob), ⟨e1, e2⟩ =>
    subst e1 e2
    have at1 : (s.heap.push (bareSet w)).get? s.heap.objs.size = some (bareSet w) := Heap.get?_push_size _ rfl
    have ty1 : Shared.TypeIs { s with heap := s.heap.push (bareSet w) } (.ref s.heap.objs.size) "set" := ⟨_, at1, rfl⟩
    have q6 := F.called_set.init.lookup
    have q7 := F.called_set.init.bind (.ref s.heap.objs.size)
    (repeat (any_goals (first | assumption | wp_step)));
    refine codeAny_mono (codeAny_call_builtin (R := wants (fun v s2 => v = .none ∧ ∃ h' tk c, s2 = { s with heap := h', toks := tk } ∧ SetR w h' s.heap.objs.size (fun j => decide (j ∈ ns)) c ∧ c ≤ ns.length ∧ (∀ b o, s.heap.get? b = some o → h'.get? b = some o)) E)
      F.called_set.init.plain F.entry_set_init (check_set_init_1 ty1 ?_)) fun r2 s2 z2 => ?_
    · have ll : l < s.heap.objs.size := let ⟨o, ho, _⟩ := hl; Heap.lt_size ho
      have hl1 : (s.heap.push (bareSet w)).IsList l vs := hl.push _
      obtain ⟨⟨oc, od, oda, osl⟩, ho, hoc, n, hod⟩ := hl1
      dsimp only at hoc hod
      subst hoc hod
      have hl1 : (s.heap.push (bareSet w)).IsList l vs := ⟨_, ho, rfl, n, rfl⟩
      have q8 := F.sub_list_set
      have q9 := F.sub_list_frozenset
      have q10 : (Value.type "list" == Value.type "dict") = false := by decide
      unfold Builtin.«set.__init__» noKeywords Builtin.Frozenset.updateFrom
      generalize hp : pyIter = PI
      wp_walk
      subst hp
      refine wpAny_pyIter_list hl1 ?_
      refine wpAny_bind (wpAny_runValue ?_)
      refine fill_list (h0 := s.heap.push (bareSet w)) (by simp [hh]) hl1 hi hb at1 (Nat.ne_of_lt ll) fun h' tk' c hS hc hk => ?_
      show wpAny _ _ _ _ _ _
      refine wpAny_pure ?_
      show wpAny _ _ (ret Value.none) _ _ _
      exact wpAny_pure ⟨rfl, h', tk', c, rfl, hS, hc, fun b o e => hk b o (Nat.ne_of_lt (Heap.lt_size e)) (Heap.get?_push_of_some _ e)⟩
    · match r2, z2 with
      | .error _, z2 => exact z2
      | .ok .next, z2 => exact z2.elim
      | .ok .brk, z2 => exact z2.elim
      | .ok .cont, z2 => exact z2.elim
      | .ok (.ret ob), ⟨e1, h', tk, c, e2, hS, hc, hk⟩ =>
        subst e1 e2
        (repeat (any_goals (first | assumption | wp_step))); exact hq h' tk c hS hc hk
end
end L2


set_option maxRecDepth 100000
set_option maxHeartbeats 2000000
/-! texts and tuples by value: str(x), join, any, all; slices and sums of tuples; sorted(set(..)); in over lists of lists; isinstance of numbers. -/
namespace L2
open PySem PySem.Spec PyProof.Rows
def rSetLst (w : World) (K : PySem.W.Frag) : List V → Hp → VK → Prop := fun xs H Q => ∃ (l : Addr) (ns : List Int), xs = [V.ref l] ∧ SqL K H l (ns.map V.int) ∧ ns.length ≤ 1000 ∧
  ∀ p c, H p = none → c ≤ ns.length → Q (.ref p) (upd H p (SetO w p (fun j => decide (j ∈ ns)) c))
theorem cr_setL {X : Cx} (hc : X.calm = true) : CallR X (.type "set") (rSetLst X.w X.K) := by
  intro pins s σ H vs us Q I r h
  obtain ⟨l, ns, rfl, hs, hn, q⟩ := h
  obtain ⟨its, rv, hl, _⟩ := I.list hs
  rw [Vals.ref1 r]
  refine call_set_lst ns (I.ok.hd hc) hl.isList (ints_of_vals rv) (by unfold scanBound; omega) fun h' tk c R1 hcn k => ?_
  have sz : s.heap.objs.size ≤ s.heap.objs.size := Nat.le_refl _
  exact ⟨.ref s.heap.objs.size, _, I.laid (t' := tk) (h' := h') (a := s.heap.objs.size) (o := SetO X.w s.heap.objs.size _ c) k sz (setO_new R1), rfl, q _ _ (I.hok.fresh sz) hcn⟩
end L2
namespace Sh
open PySem L2 Evl
variable [Wd]
/-! ### numbers, sorted, each once -/
def insU (k : Int) : List Int → List Int
  | [] => [k]
  | x :: xs => if k < x then k :: x :: xs else if k = x then x :: xs else x :: insU k xs
def sortU (ns : List Int) : List Int := ns.foldr insU []
theorem mem_insU {k j : Int} : ∀ {xs : List Int}, j ∈ insU k xs ↔ j = k ∨ j ∈ xs
  | [] => by simp [insU]
  | x :: xs => by
    unfold insU
    by_cases h1 : k < x
    · rw [if_pos h1, List.mem_cons]
    · rw [if_neg h1]
      by_cases h2 : k = x
      · rw [if_pos h2, List.mem_cons, h2]
        exact ⟨.inr, fun h => h.elim .inl id⟩
      · rw [if_neg h2, List.mem_cons, List.mem_cons, mem_insU]
        exact ⟨fun h => h.elim (fun h => .inr (.inl h)) fun h => h.elim .inl fun h => .inr (.inr h), fun h => h.elim (fun h => .inr (.inl h)) fun h => h.elim .inl fun h => .inr (.inr h)⟩
theorem insU_lt {k : Int} : ∀ {xs : List Int}, xs.Pairwise (· < ·) → (insU k xs).Pairwise (· < ·)
  | [], _ => List.pairwise_singleton ..
  | x :: xs, h => by
    rw [List.pairwise_cons] at h
    unfold insU
    by_cases h1 : k < x
    · rw [if_pos h1, List.pairwise_cons]
      refine ⟨fun j hj => ?_, List.pairwise_cons.mpr h⟩
      rcases List.mem_cons.mp hj with rfl | hj
      · exact h1
      · exact Int.lt_trans h1 (h.1 j hj)
    · rw [if_neg h1]
      by_cases h2 : k = x
      · rw [if_pos h2]
        exact List.pairwise_cons.mpr h
      · rw [if_neg h2, List.pairwise_cons]
        refine ⟨fun j hj => ?_, insU_lt h.2⟩
        rcases mem_insU.mp hj with rfl | hj
        · omega
        · exact h.1 j hj
theorem sortU_lt : ∀ ns : List Int, (sortU ns).Pairwise (· < ·)
  | [] => List.Pairwise.nil
  | n :: ns => insU_lt (sortU_lt ns)
theorem mem_sortU {j : Int} : ∀ {ns : List Int}, j ∈ sortU ns ↔ j ∈ ns
  | [] => Iff.rfl
  | n :: ns => by
    show j ∈ insU n (sortU ns) ↔ _
    rw [mem_insU, mem_sortU, List.mem_cons]
theorem lt_uniq : ∀ {xs ys : List Int}, xs.Pairwise (· < ·) → ys.Pairwise (· < ·) → (∀ k, k ∈ xs ↔ k ∈ ys) → xs = ys
  | [], [], _, _, _ => rfl
  | [], y :: ys, _, _, h => by
    have := (h y).mpr List.mem_cons_self
    cases this
  | x :: xs, [], _, _, h => by
    have := (h x).mp List.mem_cons_self
    cases this
  | x :: xs, y :: ys, h1, h2, h => by
    rw [List.pairwise_cons] at h1 h2
    have e : x = y := by
      rcases List.mem_cons.mp ((h x).mp List.mem_cons_self) with e | m
      · exact e
      · rcases List.mem_cons.mp ((h y).mpr List.mem_cons_self) with e | m2
        · exact e.symm
        · have a := h2.1 x m
          have b := h1.1 y m2
          omega
    subst e
    rw [lt_uniq h1.2 h2.2 fun k => ⟨fun m => ?_, fun m => ?_⟩]
    · rcases List.mem_cons.mp ((h k).mp (List.mem_cons_of_mem _ m)) with e | m2
      · have := h1.1 k m
        omega
      · exact m2
    · rcases List.mem_cons.mp ((h k).mpr (List.mem_cons_of_mem _ m)) with e | m2
      · have := h2.1 k m
        omega
      · exact m2
theorem sortU_of {ns : List Int} {xs : List Int} (h : xs.Pairwise (· < ·)) (m : ∀ k, k ∈ xs ↔ k ∈ ns) : xs = sortU ns := lt_uniq h (sortU_lt ns) fun k => (m k).trans mem_sortU.symm
def dSortU (d : Env → M W) : Env → M (List W) := fun env st => (d env st).bind fun w st => match lview w st with
  | some xs => match ints? xs with
    | some ns => if ns.length < 64 then .ok ((sortU ns).map W.int) st else .stuck
    | none => .stuck
  | none => .stuck
theorem rws_int {K : PySem.W.Frag} {G : Hp} {m : List Addr} : ∀ ns : List Int, RWs K G m (ns.map W.int) (ns.map V.int)
  | [] => .nil
  | n :: ns => .cons (.int n) (rws_int ns)
section
variable {X : Cx} {E : XK} {a b e : Expr} {es : List Expr} {da db d : Env → M W} {ds : Env → M (List W)} {p p2 pos pos2 : Pos} {x : Str}
theorem Sim.ghost {K : PySem.W.Frag} {mg : MG} {F G : Hp} {m : List Addr} {st : Store} {H : Hp} {p : Addr} {o : HO} (S : Sim K mg F G m st H) (hp : H p = none) : Sim K mg F G m st (upd H p o) := by
  refine (S.more (o := o) hp).less fun b u e => ?_
  rw [upd_ne (ne_of_none (S.exF b u e) hp)]
  exact e
theorem jf_sortU (hc : X.calm = true) (hg : Gl X "sorted") (hm : X.mg "sorted" = none) (hg2 : Gl X "set") (hm2 : X.mg "set" = none) (ha : JE X E a da) (he : starEach [a] X.env = (false, eval a X.env) :: starEach [] X.env := by rfl)
    (he2 : starEach [.Call (.Name "set" p2) [a] [] pos2] X.env = (false, eval (.Call (.Name "set" p2) [a] [] pos2) X.env) :: starEach [] X.env := by rfl) : JF X E (.Call (.Name "sorted" p) [.Call (.Name "set" p2) [a] [] pos2] [] pos) (dSortU da) := by
  refine weakE (pe_callB (cr_sortedSet hc) hg hm (by decide +kernel) (pa_cons (pe_callTy (cr_setL hc) hg2 hm2 (by decide +kernel) (pa_cons ha pa_nil he) (by decide) (by decide) he (by rfl)) pa_nil he2) (by decide) (by decide) he2 (by rfl)) ?_
  rintro σ H Q ⟨F, G, m, env, st, S, R, P⟩
  refine ⟨F, G, m, env, st, S, R, (PostF.bind (R := RW) P).imp fun v H1 ⟨G1, m1, w, st1, e1, S1, r1, P1⟩ => ?_⟩
  split at P1
  · rename_i xs q
    split at P1
    · rename_i ns q2
      split at P1
      · rename_i z
        obtain ⟨l, vs, rfl, h1, h2⟩ := lview_at S1 r1 q
        rw [ints_map q2] at h2
        rw [rws_ints h2] at h1
        refine ⟨l, ns, rfl, h1, by omega, fun p0 c hp0 hcn => ?_⟩
        refine ⟨p0, _, c, rfl, upd_same, by omega, fun ms p1 o1 o2 o3 hp1 => ?_⟩
        have e : ms = sortU ns := sortU_of o1 fun k => (o2 k).trans decide_eq_true_iff
        subst e
        exact P1.ret (Sim.ghost S1 hp0) hp1 (rws_int _)
      · exact P1.elim
    · exact P1.elim
  · exact P1.elim
/-! ### slices of tuples, sums of tuples -/
def dSlT (d : Env → M W) (dl dh : Env → M (Option Int)) : Env → M W := fun env st => (d env st).bind fun w st => (dl env st).bind fun lo st => (dh env st).bind fun hi st => match w with
  | .tup xs => .ok (.tup (cutW xs lo hi)) st
  | _ => .stuck
theorem je_sliceT {lo hi : Option Expr} {dl dh : Env → M (Option Int)} (he : JE X E e d) (hl : JO X E lo dl) (hu : JO X E hi dh) : JE X E (.Subscript e (.Slice lo hi none p2) pos) (dSlT d dl dh) := by
  refine weakE (pe_slice sl_tupA he hl hu) ?_
  rintro σ H Q ⟨F, G, m, env, st, S, R, P⟩
  refine ⟨F, G, m, env, st, S, R, (P.bind (R := RW)).imp fun v H1 ⟨G1, m1, w, st1, e1, S1, r1, P1⟩ => ?_⟩
  refine ⟨F, G1, m1, env, st1, S1, R.mono e1, (P1.bind (R := RO)).imp fun lo' H2 ⟨G2, m2, lo, st2, e2, S2, r2, P2⟩ => ?_⟩
  refine ⟨F, G2, m2, env, st2, S2, (R.mono e1).mono e2, (P2.bind (R := RO)).imp fun hi' H3 ⟨G3, m3, hi, st3, e3, S3, r3, P3⟩ => ?_⟩
  cases r2
  cases r3
  have r := RW.mono e3 (RW.mono e2 r1)
  cases w with
  | tup xs =>
    cases r with
    | @tup q vs _ h1 h2 =>
      have e : ∀ ys : List V, RWs X.K G3 m3 xs ys → RWs X.K G3 m3 (cutW xs lo' hi') (cutV ys lo' hi') := fun ys hy => by
        unfold cutV cutW
        rw [hy.length]
        exact (hy.drop _).take _
      refine ⟨q, vs, rfl, .inl (.inl (S3.ex _ _ h1)), fun z => ?_, fun z p hp => ?_⟩
      · have w : cutW xs lo' hi' = xs := by
          unfold cutW
          rw [h2.length, z.1, z.2, List.drop_zero, Nat.sub_zero, ← h2.length, List.take_length]
        have P4 : Post RW X.K X.mg E F G3 m3 (.ok (.tup (cutW xs lo' hi')) st3) Q := P3
        rw [w] at P4
        exact P4.ret S3 (.tup h1 h2)
      · have n := Ext.new (o := HO.tup (cutV vs lo' hi')) (m := m3) (fresh_back S3.ex hp)
        exact (Post.mono n P3).ret (S3.newG hp) (.tup upd_same (RWs.mono n (e _ h2)))
  | _ => exact P3.elim
def oTup : W → W → M W := fun x y st => match x, y with
  | .tup xs, .tup ys => if xs.length + ys.length ≤ sizeLine then .ok (.tup (xs ++ ys)) st else .stuck
  | _, _ => .stuck
theorem je_addT (ha : JE X E a da) (hb : JE X E b db) : JE X E (.BinOp a .Add b pos) (dOp oTup da db) := by
  refine je_op op_catA ?_ ha hb
  intro F G m st H x y v u Q S r1 r2 P
  unfold oTup at P
  split at P
  · rename_i xs ys
    split at P
    · rename_i z
      cases r1 with
      | @tup q vs _ h1 h2 =>
        cases r2 with
        | @tup q2 us _ h3 h4 =>
          refine ⟨q, q2, vs, us, rfl, rfl, .inl (.inl (S.ex _ _ h1)), .inl (.inl (S.ex _ _ h3)), by rw [← h2.length, ← h4.length]; exact z, fun n => ?_, fun n1 n2 => ?_, fun n1 n2 p hp => ?_⟩
          · subst n
            cases h2
            rw [List.nil_append] at P
            exact P.ret S (.tup h3 h4)
          · subst n2
            cases h4
            rw [List.append_nil] at P
            exact P.ret S (.tup h1 h2)
          · have n := Ext.new (o := HO.tup (vs ++ us)) (m := m) (fresh_back S.ex hp)
            exact (P.mono n).ret (S.newG hp) (.tup upd_same (RWs.mono n (h2.append h4)))
    · exact P.elim
  · exact P.elim
/-! ### any, all, str, join -/
def bls? : List W → Option (List Bool)
  | [] => some []
  | .bl b :: xs => (bls? xs).map fun r => b :: r
  | _ => none
theorem bls_at : ∀ bs : List Bool, bls? (bs.map W.bl) = some bs
  | [] => rfl
  | b :: bs => by
    show (bls? (bs.map W.bl)).map _ = _
    rw [bls_at bs]
    rfl
theorem rws_bls {K : PySem.W.Frag} {G : Hp} {m : List Addr} : ∀ {xs : List W} {bs : List Bool} {vs : List V}, bls? xs = some bs → RWs K G m xs vs → vs = bs.map V.bl
  | [], _, _, h, .nil => by cases h; rfl
  | .bl b :: xs, _, _, h, .cons r rs => by
    unfold bls? at h
    cases q : bls? xs with
    | none => rw [q] at h; cases h
    | some ys =>
      rw [q] at h
      cases h
      cases r
      rw [rws_bls q rs]
      rfl
def cAny (g : List Bool → Bool) : List W → M W := fun ws st => match ws with
  | [w] => match lview w st with
    | some xs => match bls? xs with
      | some bs => .ok (.bl (g bs)) st
      | none => .stuck
    | none => .stuck
  | _ => .stuck
theorem ok_any {K : PySem.W.Frag} {mg : MG} {g : List Bool → Bool} : CallOk K mg E (fun vs H Q => ∃ (a : Addr) (bs : List Bool), vs = [V.ref a] ∧ SqL K H a (bs.map V.bl) ∧ Q (.bl (g bs)) H) (cAny g) := by
  intro F G m st H ws vs Q S r P
  unfold cAny at P
  split at P
  · cases r with
    | cons h r =>
      cases r
      split at P
      · rename_i xs q
        split at P
        · rename_i bs q2
          obtain ⟨a, us, rfl, h1, h2⟩ := lview_at S h q
          rw [rws_bls q2 h2] at h1
          exact ⟨a, bs, rfl, h1, P.ret S (.bl _)⟩
        · exact P.elim
      · exact P.elim
  · exact P.elim
theorem je_any (hc : X.calm = true) (hg : Gl X "any") (hm : X.mg "any" = none) (ha : JA X E (e :: es) ds) (he : starEach (e :: es) X.env = (false, eval e X.env) :: starEach es X.env := by rfl) (hpl : (backTo pos (starEach es X.env)).any (·.1) = false := by rfl) :
    JE X E (.Call (.Name "any" p) (e :: es) [] pos) (dCallB (cAny fun bs => bs.any id) ds) := je_callB (cr_any hc) ok_any hg hm (by decide +kernel) ha (by decide) (by decide) he hpl
theorem je_all (hc : X.calm = true) (hg : Gl X "all") (hm : X.mg "all" = none) (ha : JA X E (e :: es) ds) (he : starEach (e :: es) X.env = (false, eval e X.env) :: starEach es X.env := by rfl) (hpl : (backTo pos (starEach es X.env)).any (·.1) = false := by rfl) :
    JE X E (.Call (.Name "all" p) (e :: es) [] pos) (dCallB (cAny fun bs => bs.all id) ds) := je_callB (cr_all hc) ok_any hg hm (by decide +kernel) ha (by decide) (by decide) he hpl
end
end Sh


set_option maxRecDepth 100000
set_option maxHeartbeats 2000000
/-! str(x), sep.join(xs), x in lists of lists, isinstance of numbers -/
namespace Sh
open PySem L2 Evl
variable [Wd]
def strW (i : Int) : Str := toString i
def cStr : List W → M W := fun ws st => match ws with
  | [.int i] => if i.natAbs.log2 < 1920 then .ok (.str (strW i)) st else .stuck
  | [.str a] => .ok (.str a) st
  | _ => .stuck
def strs? : List W → Option (List Str)
  | [] => some []
  | .str b :: xs => (strs? xs).map fun r => b :: r
  | _ => none
theorem strs_at : ∀ bs : List Str, strs? (bs.map W.str) = some bs
  | [] => rfl
  | b :: bs => by
    show (strs? (bs.map W.str)).map _ = _
    rw [strs_at bs]
    rfl
theorem rws_strs {K : PySem.W.Frag} {G : Hp} {m : List Addr} : ∀ {xs : List W} {bs : List Str} {vs : List V}, strs? xs = some bs → RWs K G m xs vs → vs = bs.map V.str
  | [], _, _, h, .nil => by cases h; rfl
  | .str b :: xs, _, _, h, .cons r rs => by
    unfold strs? at h
    cases q : strs? xs with
    | none => rw [q] at h; cases h
    | some ys =>
      rw [q] at h
      cases h
      cases r
      rw [rws_strs q rs]
      rfl
def mJoin : W → List W → M W := fun x ws st => match x, ws with
  | .str a, [w] => match lview w st with
    | some xs => match strs? xs with
      | some ys => if (ys.map (·.length)).sum + ys.length * a.length ≤ 16777216 then .ok (.str (Txt.join a ys)) st else .stuck
      | none => .stuck
    | none => .stuck
  | _, _ => .stuck
def dJoin (d1 d2 : Env → M W) : Env → M W := fun env st => (d1 env st).bind fun x st => match x with
  | .str a => (d2 env st).bind fun y st => mJoin (.str a) [y] st
  | _ => .stuck
/-- x in a list of data -/
def oInD : W → W → M W := fun x y st => match datC x st, datC y st with
  | some d, some (.list ds) => if SeqAt.shaped d = true ∧ SeqAt.shaped (.list ds) = true then .ok (.bl (ds.any fun z => PyData.eqv z d)) st else .stuck
  | _, _ => .stuck
/-- isinstance of a number -/
def dIsI (T : String) (d : Env → M W) : Env → M W := fun env st => (d env st).bind fun w st => match w with
  | .int i => .ok (.bl (T == "int")) st
  | _ => .stuck
section
variable {X : Cx} {E : XK} {a b e o : Expr} {es : List Expr} {da db d dO dE : Env → M W} {ds : Env → M (List W)} {p p2 pos pos2 : Pos} {x : Str}
theorem ok_strF {K : PySem.W.Frag} {mg : MG} : CallOk K mg E (fun xs H Q => (∃ i : Int, xs = [.int i] ∧ i.natAbs.log2 < 1920 ∧ Q (.str (toString i)) H) ∨ ∃ a, xs = [.str a] ∧ Q (.str a) H) cStr := by
  intro F G m st H ws vs Q S r P
  unfold cStr at P
  split at P
  · cases r with
    | cons h r =>
      cases r
      cases h
      split at P
      · rename_i z
        exact .inl ⟨_, rfl, z, P.ret S (.str _)⟩
      · exact P.elim
  · cases r with
    | cons h r =>
      cases r
      cases h
      exact .inr ⟨_, rfl, P.ret S (.str _)⟩
  · exact P.elim
theorem je_str1 (hg : Gl X "str") (hm : X.mg "str" = none) (ha : JA X E (e :: es) ds) (he : starEach (e :: es) X.env = (false, eval e X.env) :: starEach es X.env := by rfl) (hpl : (backTo pos (starEach es X.env)).any (·.1) = false := by rfl) :
    JE X E (.Call (.Name "str" p) (e :: es) [] pos) (dCallB cStr ds) := je_callT (call_str_int.or SkE.call_str_str) ok_strF hg hm (by decide +kernel) ha (by decide) (by decide) he hpl
theorem je_join {apos : Pos} (ho : JE X E o dO) (he : JE X E e dE) (hs : starEach [e] X.env = [(false, eval e X.env)] := by rfl) (hbase : attributeBase o "join" X.env (eval o X.env) = eval o X.env := by rfl) (hline : (apos.endLine == pos.line) = true := by rfl) :
    JE X E (.Call (.Attribute o "join" apos) [e] [] pos) (dJoin dO dE) := by
  refine weakE (pe_join ho he hs hbase hline) ?_
  rintro σ H Q ⟨F, G, m, env, st, S, R, P⟩
  refine ⟨F, G, m, env, st, S, R, (P.bind (R := RW)).imp fun v H1 ⟨G1, m1, w, st1, e1, S1, r1, P1⟩ => ?_⟩
  cases w with
  | str a =>
    cases r1
    refine ⟨⟨a, rfl⟩, F, G1, m1, env, st1, S1, R.mono e1, (P1.bind (R := RW)).imp fun v2 H2 ⟨G2, m2, y, st2, e2, S2, r2, P2⟩ => ?_⟩
    unfold mJoin at P2
    dsimp only at P2
    split at P2
    · rename_i xs q
      split at P2
      · rename_i ys q2
        split at P2
        · rename_i z
          obtain ⟨l, us, rfl, h1, h2⟩ := lview_at S2 r2 q
          rw [rws_strs q2 h2] at h1
          exact ⟨a, l, ys, rfl, rfl, .inl h1, z, P2.ret S2 (.str _)⟩
        · exact P2.elim
      · exact P2.elim
    · exact P2.elim
  | _ => exact P1.elim
theorem units65 {k : Nat} {A : Around} (r : Room k A) : A.units + 65 < cLine := by have := r.un; omega
theorem ok_inD {K : PySem.W.Frag} {mg : MG} : OpOk K mg E (rInD K) oInD := by
  intro F G m st H x y v u Q S r1 r2 P
  unfold oInD at P
  split at P
  · rename_i d ds q1 q2
    split at P
    · rename_i z
      exact ⟨d, ds, datC_at S r1 q1, datC_at S r2 q2, z.1, z.2, P.ret S (.bl _)⟩
    · exact P.elim
  · exact P.elim
theorem je_inD {k : Nat} (hr : Room k X.A) (ha : JE X E a da) (hb : JE X E b db) (hm : behindInMarks .In b = false := by rfl) : JE X E (.Compare a [.In] [b] pos) (dOp oInD da db) := je_cmp (op_inD (units65 hr)) ok_inD ha hb hm
theorem jt_inD {k : Nat} (hr : Room k X.A) (ha : JE X E a da) (hb : JE X E b db) (hm : behindInMarks .In b = false := by rfl) : JT X E (.Compare a [.In] [b] pos) (dB (dOp oInD da db)) := jt_cmp (op_inD (units65 hr)) ok_inD ha hb hm
theorem je_isI {T : String} (hg : Gl X "isinstance") (hm : X.mg "isinstance" = none) (hg2 : Gl X x) (hm2 : X.mg x = none) (hv : bootBuiltins x = some (.type T)) (ha : JE X E a da)
    (kt : PySem.W.kitOne X.K (.type "int") (.type T) = some (T == "int")) (he : starEach [a, .Name x p2] X.env = (false, eval a X.env) :: starEach [.Name x p2] X.env := by rfl)
    (he2 : starEach [.Name x p2] X.env = (false, eval (.Name x p2) X.env) :: starEach [] X.env := by rfl) (hpl : (backTo pos (starEach [.Name x p2] X.env)).any (·.1) = false := by rfl)
    (hn : x ≠ "__name__" := by decide) (hdb : (x == ("__debug__" : Str)) = false := by decide) : JE X E (.Call (.Name "isinstance" p) [a, .Name x p2] [] pos) (dIsI T da) := by
  refine weakE (pe_callB call_isi hg hm (by decide +kernel) (pa_cons ha (pa_cons (pe_bltn (v := .ty T) hg2 hm2 hv rfl hn hdb) pa_nil he2) he) (by decide) (by decide) he hpl) ?_
  rintro σ H Q ⟨F, G, m, env, st, S, R, P⟩
  refine ⟨F, G, m, env, st, S, R, (P.bind (R := RW)).imp fun v H1 ⟨G1, m1, w, st1, e1, S1, r1, P1⟩ => ?_⟩
  cases w with
  | int i =>
    cases r1
    exact ⟨_, .ty T, _, _, _, rfl, .ty T, .base (.int i), kt, P1.ret S1 (.bl _)⟩
  | _ => exact P1.elim
/-- a, b, c = x, y, z (plain local names) -/
def sPar3 (i j l : Nat) (ds : Env → M (List W)) : S := fun env st => (ds env st).bindS fun ws st => match ws with
  | [u, v, w] => .nx (((env.set i (some u)).set j (some v)).set l (some w)) st
  | _ => .stuck
theorem js_par3 {i j l : Nat} {x y z : Str} {c : Expr} {px py pz pt : Pos} {kt k2 pt2} (hc : X.calm = true) (hN : X.N.Nodup) (hi : X.N[i]? = some x) (hj : X.N[j]? = some y) (hl : X.N[l]? = some z) (hij : i ≠ j ∧ i ≠ l ∧ j ≠ l)
    (hx : X.env.scope.names.lookup x = some .local) (hy : X.env.scope.names.lookup y = some .local) (hz : X.env.scope.names.lookup z = some .local) (ha : JA X E [a, b, c] ds)
    (hw : swappedStores [.Tuple [.Name x px, .Name y py, .Name z pz] kt pt] (.Tuple [a, b, c] k2 pt2) X.env = pure (some [x, y, z]))
    (hs : swapsWithSole [.Tuple [.Name x px, .Name y py, .Name z pz] kt pt] (.Tuple [a, b, c] k2 pt2) pos.line X.env = pure false := by rfl) :
    JS X E (.Assign [.Tuple [.Name x px, .Name y py, .Name z pz] kt pt] (.Tuple [a, b, c] k2 pt2) pos) (sPar3 i j l ds) := by
  refine weakS (ps_par3 hc hN hi hj hl hij.1 hij.2.1 hij.2.2 hx hy hz ha hw hs) ?_
  rintro D σ H ⟨F, G, m, env, st, S, R, P⟩
  refine ⟨F, G, m, env, st, S, R, (P.bindS (R := RA)).imp fun vs H1 ⟨G1, m1, ws, st1, e1, S1, r1, P1⟩ => ?_⟩
  split at P1
  · cases r1 with
    | cons r q =>
      cases q with
      | cons r2 q =>
        cases q with
        | cons r3 q =>
          cases q
          exact ⟨_, _, _, rfl, P1 G1 m1 _ H1 (Ext.refl G1 m1) S1 ((((R.mono e1).set r i).set r2 j).set r3 l)⟩
  · exact P1.elim
/-- for x in a tuple -/
def iT (d : Env → M W) : Env → M It' := fun env st => (d env st).bind fun w st => match w with
  | .tup xs => .ok ⟨xs, fun _ => True⟩ st
  | .ftp xs => .ok ⟨xs, fun _ => True⟩ st
  | _ => .stuck
theorem walks_tup {K : PySem.W.Frag} {mg : MG} {G : Hp} {m : List Addr} {xs : List W} {adr : Addr} {ok : Store → Prop} (h : ∀ H F G1 m1 st, Ext G m G1 m1 → Sim K mg F G1 m1 st H → ok st → ∃ vs, SqT K H adr vs ∧ RWs K G1 m1 xs vs) : Walks K mg G m xs ok (Itt K adr) := by
  constructor
  · intro i H F G1 m1 st e S k hi
    obtain ⟨vs, h1, h2⟩ := h H F G1 m1 st e S k
    exact ⟨vs, vs[i]'(by rw [← h2.length]; exact hi), h1, List.getElem?_eq_getElem _⟩
  · intro i H F G1 m1 st e S k hi
    obtain ⟨vs, h1, h2⟩ := h H F G1 m1 st e S k
    exact ⟨vs, h1, by rw [← h2.length]; exact hi⟩
  · intro i H x H' F G1 m1 st e S k hi hy
    obtain ⟨vs, h1, h2⟩ := h H F G1 m1 st e S k
    obtain ⟨rfl, h3⟩ := hy
    obtain ⟨w, h4, h5⟩ := h2.get' (h3 vs h1)
    exact ⟨w, G1, h4, Ex.refl G1, S, h5⟩
theorem ji_tup {tg : Expr} (h : JE X E e d) : JI X E tg e (iT d) := by
  refine weakI (pi_tup h) ?_
  rintro σ H Q ⟨F, G, m, env, st, S, R, P⟩
  refine ⟨F, G, m, env, st, S, R, (P.bind (R := RW)).imp fun v H1 ⟨G1, m1, w, st1, e1, S1, r1, P1⟩ => ?_⟩
  cases w with
  | tup xs =>
    cases r1 with
    | @tup p vs _ h1 h2 => exact ⟨p, rfl, ⟨vs, .inl (.inl (S1.ex _ _ h1))⟩, Post.ret P1 S1 (walks_tup fun H F G1 m1 st e S k => ⟨vs, .inl (.inl (S.ex _ _ (e.ex _ _ h1))), h2.mono e⟩)⟩
  | ftp xs =>
    cases r1 with
    | @ftp p vs _ h1 h2 => exact ⟨p, rfl, ⟨vs, ex_t S1.ex h1⟩, Post.ret P1 S1 (walks_tup fun H F G1 m1 st e S k => ⟨vs, ex_t S.ex (ex_t e.ex h1), h2.mono e⟩)⟩
  | _ => exact P1.elim
end
section
variable {env : Sh.Env} {st st1 : Store}
theorem rJoin {d1 d2 : Sh.Env → M W} {a : Str} {y w : W} {st2 st3 : Store} (h : d1 env st = .ok (.str a) st1) (k : d2 env st1 = .ok y st2) (j : mJoin (.str a) [y] st2 = .ok w st3) : dJoin d1 d2 env st = .ok w st3 := by
  unfold dJoin
  rw [h, Out.bind_ok]
  show (d2 env st1).bind _ = _
  rw [k, Out.bind_ok, j]
theorem rIT {d : Sh.Env → M W} {xs : List W} (h : d env st = .ok (.tup xs) st1) : iT d env st = .ok ⟨xs, fun _ => True⟩ st1 := by
  unfold iT
  rw [h, Out.bind_ok]
theorem mJoin_at {a : Str} {w : W} {ys : List Str} (h : lview w st = some (ys.map W.str)) (l : (ys.map (·.length)).sum + ys.length * a.length ≤ 16777216) : mJoin (.str a) [w] st = .ok (.str (Txt.join a ys)) st := by
  unfold mJoin
  dsimp only
  rw [h]
  dsimp only
  rw [strs_at]
  exact if_pos l
end
end Sh


set_option maxRecDepth 100000
set_option maxHeartbeats 2000000
/-! dicts whose keys are tuples, and tuples of tuples -/
namespace L2
open PySem PySem.Spec PyProof.Rows
mutual
/-- v is the key k -/
inductive NKH (H : Hp) : NestedKey → V → Prop
  | none : NKH H .none .non
  | num (i : Int) : NKH H (.num i) (.int i)
  | text (x : Str) : NKH H (.text x) (.str x)
  | tup {p : Addr} {vs : List V} {ks : List NestedKey} : H p = some (.tup vs) → NKHs H ks vs → NKH H (.tup ks) (.ref p)
inductive NKHs (H : Hp) : List NestedKey → List V → Prop
  | nil : NKHs H [] []
  | cons {k : NestedKey} {v : V} {ks : List NestedKey} {vs : List V} : NKH H k v → NKHs H ks vs → NKHs H (k :: ks) (v :: vs)
end
section
variable {X : Cx} {pins : List (Addr × Obj)} {σ : St} {H : Hp} {s : Shared}
mutual
theorem NKH.is (I : Inv X pins σ H s) : ∀ {k : NestedKey} {v : V} {u : Value}, NKH H k v → RelV v u → NestedIs s.heap k u
  | _, _, _, .none, r => by cases r; exact .none
  | _, _, _, .num i, r => by
    obtain ⟨t, rfl⟩ := r
    exact .int i t
  | _, _, _, .text x, r => by
    obtain ⟨t, rfl⟩ := r
    exact .text x t
  | _, _, _, @NKH.tup _ p vs ks h hs, r => by
    cases r
    have z : ObjOk X.prog X.w H s.heap p (.tup vs) := I.hok p _ h
    obtain ⟨_, its, rv, ob, e, c1, c3, c2⟩ := z
    have w := NKHs.is I hs rv
    exact .tup e c1 c2 (by simpa using w)
theorem NKHs.is (I : Inv X pins σ H s) : ∀ {ks : List NestedKey} {vs : List V} {us : List Value}, NKHs H ks vs → Vals vs us → NestedAll s.heap ks us
  | _, _, _, .nil, .nil => .nil
  | _, _, _, .cons h hs, .cons r rs => .cons (NKH.is I h r) (NKHs.is I hs rs)
end
end
/-- the entries' keys stand where they are told -/
def DKs (H : Hp) (xs : List (NestedKey × Addr × V)) : Prop := ∀ e ∈ xs, NKH H e.1 (.ref e.2.1) ∧ e.1.depth ≤ 8
def lookN (xs : List (NestedKey × Addr × V)) (k : NestedKey) : Option V := (xs.find? fun x => decide (x.1 = k)).map (·.2.2)
def putN (xs : List (NestedKey × Addr × V)) (k : NestedKey) (a : Addr) (v : V) : List (NestedKey × Addr × V) :=
  if (lookN xs k).isSome = true then xs.map (fun x => if x.1 = k then (x.1, x.2.1, v) else x) else xs ++ [(k, a, v)]
abbrev REs : List (NestedKey × Addr × V) → List (NestedKey × Addr × Value) → Prop := Paired (fun (p : NestedKey × Addr × V) (q : NestedKey × Addr × Value) => p.1 = q.1 ∧ p.2.1 = q.2.1 ∧ RelV p.2.2 q.2.2)
theorem res_look : ∀ {xs : List (NestedKey × Addr × V)} {us : List (NestedKey × Addr × Value)} {k : NestedKey}, REs xs us →
    (lookN xs k = none ∧ atKey us k = none) ∨ ∃ v p, lookN xs k = some v ∧ atKey us k = some p ∧ RelV v p.2
  | _, _, k, .nil => .inl ⟨rfl, rfl⟩
  | x :: xs, u :: us, k, .cons r rs => by
    unfold lookN atKey
    rw [List.find?_cons, List.find?_cons, r.1]
    by_cases q : u.1 = k
    · rw [decide_eq_true q]
      exact .inr ⟨x.2.2, u.2, rfl, rfl, r.2.2⟩
    · rw [decide_eq_false q]
      exact res_look rs
theorem res_map {k : NestedKey} {v : V} {u : Value} (r : RelV v u) : ∀ {xs : List (NestedKey × Addr × V)} {us : List (NestedKey × Addr × Value)}, REs xs us → REs (xs.map fun x => if x.1 = k then (x.1, x.2.1, v) else x) (us.map (putAt k u))
  | _, _, .nil => .nil
  | x :: xs, y :: us, .cons q rs => by
    rw [List.map_cons, List.map_cons]
    refine .cons ?_ (res_map r rs)
    unfold putAt
    by_cases z : y.1 = k
    · rw [if_pos (q.1.trans z), if_pos z]
      exact ⟨q.1, q.2.1, r⟩
    · rw [if_neg (fun e => z (q.1.symm.trans e)), if_neg z]
      exact q
theorem res_app {ys : List (NestedKey × Addr × V)} {ws : List (NestedKey × Addr × Value)} (g : REs ys ws) : ∀ {xs : List (NestedKey × Addr × V)} {us : List (NestedKey × Addr × Value)}, REs xs us → REs (xs ++ ys) (us ++ ws)
  | _, _, .nil => g
  | _, _, .cons h r => .cons h (res_app g r)
theorem res_put {xs : List (NestedKey × Addr × V)} {us : List (NestedKey × Addr × Value)} {k : NestedKey} {a : Addr} {v : V} {u : Value} (h : REs xs us) (r : RelV v u) : REs (putN xs k a v) (storedH us k a u) := by
  unfold putN storedH
  rcases res_look (k := k) h with ⟨e1, e2⟩ | ⟨v', p, e1, e2, _⟩
  · rw [e1, e2, if_neg (by decide), if_neg (by decide)]
    exact res_app (.cons ⟨rfl, rfl, r⟩ .nil) h
  · rw [e1, e2]
    simp only [Option.isSome_some, if_true]
    exact res_map r h
theorem REs.length {xs : List (NestedKey × Addr × V)} {us : List (NestedKey × Addr × Value)} (h : REs xs us) : xs.length = us.length := Paired.length h
theorem res_mem : ∀ {xs : List (NestedKey × Addr × V)} {us : List (NestedKey × Addr × Value)}, REs xs us → ∀ u ∈ us, ∃ x ∈ xs, x.1 = u.1 ∧ x.2.1 = u.2.1
  | _, _, .nil, _, h => nomatch h
  | x :: xs, y :: us, .cons q rs, u, h => by
    rcases List.mem_cons.mp h with rfl | h
    · exact ⟨x, List.mem_cons_self, q.1, q.2.1⟩
    · obtain ⟨z, hz, e⟩ := res_mem rs u h
      exact ⟨z, List.mem_cons_of_mem _ hz, e⟩
section
variable {X : Cx} {pins : List (Addr × Obj)} {σ : St} {H : Hp} {s : Shared} {d : Addr} {xs : List (NestedKey × Addr × V)}
theorem dn_of (I : Inv X pins σ H s) (hd : H d = some (DN X.prog X.w d xs)) (hk : DKs H xs) : ∃ us, REs xs us ∧ s.heap.DictOfH (nestedKind X.prog X.w) d us ∧ xs.length ≤ sizeLine ∧ (d == sysModules) = false := by
  have z : DNat X.prog X.w s.heap d xs := (I.hok d _ hd).1
  obtain ⟨z1, z2, us, r, o, es, ep, h1, h2, h3, h4, h5⟩ := z
  refine ⟨us, r, ⟨o, es, ep, h1, h2, h3, h4, fun u hu => ?_, h5⟩, z1, z2⟩
  obtain ⟨x, hx, e1, e2⟩ := res_mem r u hu
  obtain ⟨n, l⟩ := hk x hx
  rw [e1, e2] at n
  rw [e1] at l
  exact ⟨NKH.is I n rfl, l⟩
theorem dn_ok {H' : Hp} {h : Heap} {us : List (NestedKey × Addr × Value)} (r : REs xs us) (z : xs.length ≤ sizeLine) (sm : (d == sysModules) = false) (hm : h.DictOfH (nestedKind X.prog X.w) d us) : ObjOk X.prog X.w H' h d (DN X.prog X.w d xs) := by
  obtain ⟨o, es, ep, h1, h2, h3, h4, _, h5⟩ := hm
  exact ⟨⟨z, sm, us, r, o, es, ep, h1, h2, h3, h4, h5⟩, ⟨o, h1⟩, fun g1 g2 y k => by
    obtain ⟨z1, z2, us, r, o, es, ep, h1, h2⟩ := y
    exact ⟨z1, z2, us, r, o, es, ep, k _ h1, h2⟩⟩
theorem putN_len {k : NestedKey} {a : Addr} {v : V} : (putN xs k a v).length ≤ xs.length + 1 := by
  unfold putN
  split
  · rw [List.length_map]; omega
  · rw [List.length_append, List.length_singleton]; exact Nat.le_refl _
/-- the key's own facts -/
def KeyH (H : Hp) (k : NestedKey) (y : V) : Prop := ∃ a, y = .ref a ∧ NKH H k (.ref a) ∧ k.depth ≤ 8
def roomN {k : Nat} {A : Around} (r : A.units + 64 < cLine) {P : Program} {w : World} : (nestedKind P w).room A.in1 := by
  show A.units + 1 + 8 < cLine
  omega
/-- k in d, k not in d -/
def rNIn (P : Program) (w : World) (neg : Bool) : R2 := fun x y H Q => ∃ d xs k, y = .ref d ∧ H d = some (DN P w d xs) ∧ DKs H xs ∧ KeyH H k x ∧ Q (.bl (if neg then !(lookN xs k).isSome else (lookN xs k).isSome)) H
theorem op_inN (hu : X.A.units + 64 < cLine) : OpR X (compareOp .In) (rNIn X.prog X.w false) := by
  intro pins s σ H x y v u Q I rx ry h
  obtain ⟨d, xs, k, rfl, hd, hk, ⟨a, rfl, n, l⟩, q⟩ := h
  cases rx
  cases ry
  obtain ⟨us, r, hm, z, sm⟩ := dn_of I hd hk
  refine wpAny_in_heap (roomN (k := 0) hu) ⟨NKH.is I n rfl, l⟩ sm hm ⟨.bl (atKey us k).isSome, H, I.tok _, rfl, ?_⟩
  rcases res_look (k := k) r with ⟨e1, e2⟩ | ⟨v', p, e1, e2, _⟩
  · rw [e1] at q
    rw [e2]
    exact q
  · rw [e1] at q
    rw [e2]
    exact q
theorem op_notInN (hu : X.A.units + 64 < cLine) : OpR X (compareOp .NotIn) (rNIn X.prog X.w true) := by
  intro pins s σ H x y v u Q I rx ry h
  obtain ⟨d, xs, k, rfl, hd, hk, ⟨a, rfl, n, l⟩, q⟩ := h
  cases rx
  cases ry
  obtain ⟨us, r, hm, z, sm⟩ := dn_of I hd hk
  refine notIn_keyed (roomN (k := 0) hu) ⟨NKH.is I n rfl, l⟩ sm ⟨us, hm, rfl⟩ ⟨.bl (!(valueAt (pairsH us) k).isSome), H, I.tok _, rfl, ?_⟩
  show Q (.bl (!(valueAt (pairsH us) k).isSome)) H
  rw [valueAt_pairsH, Option.isSome_map]
  rcases res_look (k := k) r with ⟨e1, e2⟩ | ⟨v', p, e1, e2, _⟩
  · rw [e1] at q
    rw [e2]
    exact q
  · rw [e1] at q
    rw [e2]
    exact q
/-- d[k] -/
def rNAt (P : Program) (w : World) : R2 := fun x y H Q => ∃ d xs k v, x = .ref d ∧ H d = some (DN P w d xs) ∧ DKs H xs ∧ KeyH H k y ∧ lookN xs k = some v ∧ Q v H
theorem ix_N (hu : X.A.units + 64 < cLine) : IxR X (rNAt X.prog X.w) := by
  intro value slice pins s σ H x y v u Q I rx ry h hs
  obtain ⟨d, xs, k, w, rfl, hd, hk, ⟨a, rfl, n, l⟩, hl, q⟩ := h
  cases rx
  cases ry
  obtain ⟨us, r, hm, z, sm⟩ := dn_of I hd hk
  rcases res_look (k := k) r with ⟨e1, e2⟩ | ⟨v', p, e1, e2, rp⟩
  · rw [e1] at hl
    cases hl
  · rw [e1] at hl
    cases hl
    exact tail_any hm.typeIs slot_dict_getitem.lookup (wpAny_getItem_heap (roomN (k := 0) hu) ⟨NKH.is I n rfl, l⟩ hm e2 ⟨_, H, I.tok _, rp, q⟩) hs
/-- d[k] = v -/
def rNSet (P : Program) (w : World) : TSet := fun o i v H Q => ∃ d xs k a, o = .ref d ∧ i = .ref a ∧ H d = some (DN P w d xs) ∧ DKs H xs ∧ NKH H k (.ref a) ∧ k.depth ≤ 8 ∧ xs.length < sizeLine ∧ Q (upd H d (DN P w d (putN xs k a v)))
theorem ps_setN (hu : X.A.units + 64 < cLine) : PSet X (rNSet X.prog X.w) := by
  intro pins s σ H o i v ov iv u Q I ro ri rv h
  obtain ⟨d, xs, k, a, rfl, rfl, hd, hk, n, l, hl, q⟩ := h
  cases ro
  cases ri
  obtain ⟨us, r, hm, z, sm⟩ := dn_of I hd hk
  refine wpAny_setItem_heap (roomN (k := 0) hu) ⟨NKH.is I n rfl, l⟩ hm (fun h' hm' hs => ?_) (by rw [← r.length]; exact z)
  have z' : (putN xs k a v).length ≤ sizeLine := Nat.le_trans putN_len hl
  have hm2 := hm'
  obtain ⟨ob, _, _, e, _⟩ := hm2
  exact ⟨_, I.write (h' := h') (t' := s.toks + (nestedKind X.prog X.w).draws k) (x := d) (e := d) (o := DN X.prog X.w d (putN xs k a v)) (by rw [hd]; exact True.intro) (.inl rfl) (fun b ob nb e => (hs.2 b nb).trans e) ⟨ob, e⟩ (dn_ok (res_put r rv) z' sm hm'), q⟩
/-- {} -/
def rNNew (P : Program) (w : World) : TE := fun σ H Q => ∀ d, H d = none → Q (.ref d) (upd H d (DN P w d []))
theorem pe_newN {pos : Pos} : PE X (.Dict [] [] pos) (rNNew X.prog X.w) := ⟨fun pins s σ H Q I h => by
  have sz : s.heap.objs.size ≤ s.heap.objs.size := Nat.le_refl _
  have sm : (s.heap.objs.size == sysModules) = false := by
    exact beq_eq_false_iff_ne.mpr (Ne.symm (Nat.ne_of_lt I.big))
  exact wpAny_Dict_empty ⟨.ref s.heap.objs.size, _, I.laid (a := s.heap.objs.size) (t' := s.toks) (fun b o q => Heap.get?_push_of_some _ q) sz (dn_ok (X := X) (us := []) .nil (Nat.zero_le _) sm (Heap.DictOfH.new s.heap)), rfl, h _ (I.hok.fresh sz)⟩⟩
/-- d.get(k, z) -/
def rNGet (P : Program) (w : World) : V → List V → Hp → VK → Prop := fun x ys H Q => ∃ d xs k y z, x = .ref d ∧ ys = [y, z] ∧ H d = some (DN P w d xs) ∧ DKs H xs ∧ KeyH H k y ∧ Q ((lookN xs k).getD z) H
theorem mt_getN (hu : X.A.units + 64 < cLine) : MtR X "dict.get" (rNGet X.prog X.w) := by
  intro pins s σ H x ys v us Q I rx ry h
  obtain ⟨d, xs, k, y, z, rfl, rfl, hd, hk, ⟨a, rfl, n, l⟩, q⟩ := h
  cases rx
  match us, ry with
  | [_, u], .cons r1 (.cons r2 .nil) =>
    cases r1
    obtain ⟨es, r, hm, zl, sm⟩ := dn_of I hd hk
    refine getOr_keyed (roomN (k := 0) hu) ⟨NKH.is I n rfl, l⟩ sm ⟨es, hm, rfl⟩ ⟨(lookN xs k).getD z, H, I.tok _, ?_, q⟩
    rw [valueAt_pairsH]
    rcases res_look (k := k) r with ⟨e1, e2⟩ | ⟨v', p, e1, e2, rp⟩
    · rw [e1, e2]
      exact r2
    · rw [e1, e2]
      exact rp
/-- d.setdefault(k, z) -/
def rNDef (P : Program) (w : World) : V → List V → Hp → VK → Prop := fun x ys H Q => ∃ d xs k a z, x = .ref d ∧ ys = [.ref a, z] ∧ H d = some (DN P w d xs) ∧ DKs H xs ∧ NKH H k (.ref a) ∧ k.depth ≤ 8 ∧ xs.length < sizeLine ∧
  (∀ v, lookN xs k = some v → Q v H) ∧ (lookN xs k = none → Q z (upd H d (DN P w d (putN xs k a z))))
theorem mt_defN (hu : X.A.units + 64 < cLine) : MtR X "dict.setdefault" (rNDef X.prog X.w) := by
  intro pins s σ H x ys v us Q I rx ry h
  obtain ⟨d, xs, k, a, z, rfl, rfl, hd, hk, n, l, hl, q1, q2⟩ := h
  cases rx
  match us, ry with
  | [_, u], .cons r1 (.cons r2 .nil) =>
    cases r1
    obtain ⟨es, r, hm, zl, sm⟩ := dn_of I hd hk
    refine call_setdefault_heap (hsz := by rw [← r.length]; exact zl) (roomN (k := 0) hu) ⟨NKH.is I n rfl, l⟩ sm hm (fun p hp => ?_) fun hn h' hm' hs => ?_
    · rcases res_look (k := k) r with ⟨e1, e2⟩ | ⟨v', p', e1, e2, rp⟩
      · rw [e2] at hp
        cases hp
      · rw [e2] at hp
        cases hp
        exact ⟨v', H, I.tok _, rp, q1 _ e1⟩
    · have e1 : lookN xs k = none := by
        rcases res_look (k := k) r with ⟨e1, _⟩ | ⟨v', p', _, e2, _⟩
        · exact e1
        · rw [e2] at hn
          cases hn
      have z' : (putN xs k a z).length ≤ sizeLine := Nat.le_trans putN_len hl
      have hm2 := hm'
      obtain ⟨ob, _, _, e, _⟩ := hm2
      exact ⟨z, _, I.write (h' := h') (t' := s.toks + (nestedKind X.prog X.w).draws k) (x := d) (e := d) (o := DN X.prog X.w d (putN xs k a z)) (by rw [hd]; exact True.intro) (.inl rfl) (fun b ob nb e => (hs.2 b nb).trans e) ⟨ob, e⟩ (dn_ok (res_put r r2) z' sm hm'), r2, q2 e1⟩
/-- a method of such a dict -/
def tMN (P : Program) (w : World) (r : V → List V → Hp → VK → Prop) (to : TE) (t : TA) : TE := fun σ H Q => to σ H fun x H1 => (∃ a xs, x = V.ref a ∧ H1 a = some (DN P w a xs)) ∧ t σ H1 fun ys H2 => r x ys H2 Q
theorem pe_mN {o e : Expr} {es : List Expr} {to : TE} {t : TA} {apos cpos : Pos} {name : Str} {id : String} {r : V → List V → Hp → VK → Prop} (slot : Slot "dict" name id) (hty : typeOf (.builtin id) = pure (.type "method_descriptor")) (hr : MtR X id r) (ho : PE X o to) (ha : PA X (e :: es) t)
    (hbase : attributeBase o name X.env (eval o X.env) = eval o X.env)
    (hfew : ((backTo cpos (starEach (e :: es) X.env)).all (fun x => !x.1) && (backToKw cpos (keywordEach [] X.env)).all (fun x => x.1.isSome) && decide ((e :: es).length + ([] : List Keyword).length + (if ([] : List Keyword).isEmpty then 0 else 1) < 30)) = true)
    (hline : (apos.endLine == cpos.line) = true) (hs : starEach (e :: es) X.env = (false, eval e X.env) :: starEach es X.env) (hplain : (backTo cpos (starEach es X.env)).any (·.1) = false) :
    PE X (.Call (.Attribute o name apos) (e :: es) [] cpos) (tMN X.prog X.w r to t) := by
  constructor
  intro pins s σ H Q I h
  refine wpAny_Call_method_late hbase hfew hline rfl (thn (ho.run pins s σ H _ I h) fun v s1 hh => ?_)
  obtain ⟨x, H1, I1, r1, ⟨a, xs, rfl, hd⟩, q1⟩ := hh
  cases r1
  have z : DNat X.prog X.w s1.heap a xs := (I1.hok a _ hd).1
  obtain ⟨_, _, us, _, ob, es', ep, h1, h2, h3, _⟩ := z
  refine ⟨"dict", id, F.plainAttrs_dict, slot, hty, ⟨ob, h1, h2.1⟩, (fun b e => by cases e; exact ⟨ob, h1, h2.2.1⟩), ?_⟩
  have g := ha.run cpos pins s1 σ H1 _ I1 q1
  rw [hs] at g ⊢
  refine Calls.callWith_builtin (show (false || (backTo cpos (starEach es X.env)).any (·.1)) = false from by rw [hplain]; rfl) (Calls.evalArgs_plain (thn g fun us s2 hh => ?_))
  obtain ⟨ys, H2, I2, r2, q2⟩ := hh
  exact hr pins s2 σ H2 (.ref a) ys (.ref a) us Q I2 rfl r2 q2
end
end L2


set_option maxRecDepth 100000
set_option maxHeartbeats 2000000
/-! sorted over data: lists, and the keys of dicts -/
namespace L2
open PySem PySem.Spec PyProof.Rows PySem.W
/-- the items are fit to be sorted -/
structure SortOk (bs : List (V × PyData)) : Prop where
  alike : AllAlike (bs.map (·.2))
  able : Sortable (bs.map (·.2))
  dep : ∀ b ∈ bs, b.2.depth ≤ 40
  len : bs.length ≤ sizeLine
def srt (bs : List (V × PyData)) : List (V × PyData) := bs.mergeSort (dataLe false fun b => b.2)
section
variable {X : Cx} {pins : List (Addr × Obj)} {σ : St} {H : Hp} {s : Shared}
theorem each_vals : ∀ {bs : List (V × PyData)} {us : List Value}, Vals (bs.map (·.1)) us → EachIs (fun (u : Value) (b : V × PyData) => RelV b.1 u) us bs
  | [], [], _ => .nil
  | b :: bs, u :: us, .cons h r => .cons h (each_vals r)
theorem vals_each : ∀ {bs : List (V × PyData)} {us : List Value}, EachIs (fun (u : Value) (b : V × PyData) => RelV b.1 u) us bs → Vals (bs.map (·.1)) us
  | [], _, .nil => .nil
  | b :: bs, _, .cons h r => .cons h (vals_each r)
theorem each_reads (I : Inv X pins σ H s) : ∀ {bs : List (V × PyData)} {us : List Value}, (∀ b ∈ bs, Dp X.K H b.1 b.2) → EachIs (fun (u : Value) (b : V × PyData) => RelV b.1 u) us bs → EachIs (fun (u : Value) (b : V × PyData) => ∃ as, Reads s.heap u b.2 as) us bs
  | [], _, _, .nil => .nil
  | b :: bs, _, hd, .cons h r => .cons (Dp.reads I _ _ _ (hd b List.mem_cons_self) h) (each_reads I (fun b hb => hd b (List.mem_cons_of_mem _ hb)) r)
/-- sorted(xs) -/
def rSortD (K : PySem.W.Frag) : List V → Hp → VK → Prop := fun xs H Q => ∃ (l : Addr) (bs : List (V × PyData)), xs = [V.ref l] ∧ SqL K H l (bs.map (·.1)) ∧ (∀ b ∈ bs, Dp K H b.1 b.2) ∧ SortOk bs ∧
  ∀ p, H p = none → Q (.ref p) (upd H p (.lst ((srt bs).map (·.1))))
theorem srt_len (bs : List (V × PyData)) : (srt bs).length = bs.length := List.length_mergeSort bs
theorem cr_sortD (hu : X.A.units + 64 < cLine) : CallR X (.builtin "sorted") (rSortD X.K) := by
  intro pins s σ H vs us Q I r h
  obtain ⟨l, bs, rfl, hs, hd, ok, q⟩ := h
  obtain ⟨its, rv, hl, _⟩ := I.list hs
  rw [Vals.ref1 r]
  have ev := each_vals rv
  refine sorted_data (enc := fun b : V × PyData => b.2) (R := fun u b => RelV b.1 u) hl.isList ev (each_reads I hd ev) ok.alike ok.able ok.len (fun b hb => by have := ok.dep b hb; omega) fun out hlo eo => ?_
  obtain ⟨ep, he⟩ := sortedAll_at s.heap its out.toArray
  have hz : ((srt bs).map (·.1)).length ≤ sizeLine := by
    rw [List.length_map, srt_len]
    exact ok.len
  exact ⟨.ref _, _, I.laid (t' := s.toks) (a := s.heap.objs.size + 1) (o := .lst ((srt bs).map (·.1))) (fun _ _ => sortedAll_old) (Nat.le_succ _) ⟨hz, out, ep, vals_each eo, he⟩, rfl, q _ (I.hok.fresh (Nat.le_succ _))⟩
theorem res_refs : ∀ {xs : List (NestedKey × Addr × V)} {us : List (NestedKey × Addr × Value)}, REs xs us → Vals (xs.map fun x => V.ref x.2.1) (us.map fun e => Value.ref e.2.1)
  | _, _, .nil => .nil
  | x :: xs, u :: us, .cons h r => .cons (show Value.ref u.2.1 = Value.ref x.2.1 from by rw [h.2.1]) (res_refs r)
/-- sorted(d), d's keys tuples -/
def rSortN (P : Program) (w : World) (K : PySem.W.Frag) : List V → Hp → VK → Prop := fun ys H Q => ∃ (d : Addr) (xs : List (NestedKey × Addr × V)) (bs : List (V × PyData)), ys = [V.ref d] ∧ H d = some (DN P w d xs) ∧ DKs H xs ∧ bs.map (·.1) = xs.map (fun x => V.ref x.2.1) ∧ (∀ b ∈ bs, Dp K H b.1 b.2) ∧ SortOk bs ∧
  ∀ p, H p = none → Q (.ref p) (upd H p (.lst ((srt bs).map (·.1))))
theorem cr_sortN (hc : X.calm = true) (hu : X.A.units + 64 < cLine) : CallR X (.builtin "sorted") (rSortN X.prog X.w X.K) := by
  intro pins s σ H vs us Q I r h
  obtain ⟨d, xs, bs, rfl, hd, hk, eb, hdp, ok, q⟩ := h
  rw [Vals.ref1 r]
  obtain ⟨es, re, hm, z, sm⟩ := dn_of I hd hk
  have hm2 : s.heap.DictKeyed (nestedKind X.prog X.w) d (pairsH es) := ⟨es, hm, rfl⟩
  obtain ⟨o, en, ep, h1, h2, h3, h4, _, _⟩ := hm
  have raw : s.heap.DictRaw d en ep := ⟨o, h1, h2, h3⟩
  have sz : en.size = xs.length := by
    rw [← Array.length_toList, h4, List.length_map, re.length]
  refine Calls.call_function_entry kind_sorted plain_sorted entry_sorted (args_sorted1 _) ?_
  unfold Builtin.«sorted»
  refine wpAny_bind (m := checkCount "sorted" 1 1 _) (wpAny_pure ?_)
  refine wpAny_bind (kdu_collect (A := X.A.in1) (KdlSrc.rawDict sm) (I.ok.hd hc) raw (by rw [sz]; exact z) fun h' tk acc kk hacc => ?_)
  have al : acc.toList.length = bs.length := by
    have e := congrArg List.length eb
    rw [List.length_map, List.length_map] at e
    rw [Array.length_toList, hacc.1, sz, e]
  have ev : Vals (bs.map (·.1)) acc.toList := by
    rw [eb]
    have e1 : acc.toList = es.map fun e => Value.ref e.2.1 := by
      refine List.ext_getElem? fun j => ?_
      by_cases hj : j < acc.size
      · obtain ⟨hi, e⟩ := hacc.2 j acc[j] (Array.getElem?_eq_getElem hj)
        have e2 : en.toList[j]? = some en[j] := by rw [Array.getElem?_toList]; exact Array.getElem?_eq_getElem hi
        rw [h4, List.getElem?_map] at e2
        rw [Array.getElem?_toList, Array.getElem?_eq_getElem hj, e, List.getElem?_map]
        cases q3 : es[j]? with
        | none => rw [q3] at e2; cases e2
        | some y =>
          rw [q3] at e2
          have e4 : entryOfKey (nestedKind X.prog X.w) y = en[j] := Option.some.inj e2
          rw [← e4]
          rfl
      · rw [Array.getElem?_toList, Array.getElem?_eq_none (by omega), List.getElem?_map, List.getElem?_eq_none (by rw [← re.length, ← sz]; have := hacc.1; omega)]
        rfl
    rw [e1]
    exact res_refs re
  have I1 : Inv X pins σ H { s with heap := h', toks := tk } := I.kept kk
  have ee := each_vals ev
  have lL : acc.toList.length ≤ sizeLine := by rw [al]; exact ok.len
  refine wpAny_bind (wpAny_newList ?_ lL)
  have at1 : (h'.push (seqObj "list" acc.toList.toArray 0)).get? h'.objs.size = some (seqObj "list" acc.toList.toArray 0) := Heap.get?_push_size _ rfl
  have I2 : Inv X pins σ H { s with heap := h'.push (seqObj "list" acc.toList.toArray 0), toks := tk } := I.kept fun b o e => Heap.get?_push_of_some _ (kk b o e)
  show wpAny _ _ _ _ _ { s with heap := h'.push (seqObj "list" acc.toList.toArray 0), toks := tk }
  have er := each_reads I1 hdp ee
  have er2 : EachIs (fun (v : Value) (b : V × PyData) => ∃ as, Reads (sortingHeap (h'.push (seqObj "list" acc.toList.toArray 0)) h'.objs.size acc.toList) v b.2 as) acc.toList bs :=
    er.mono fun _ _ ⟨as, r⟩ => ⟨as, PyProof.Rows.Reads.keeps (fun b o e => sortingHeap_old (Nat.ne_of_lt (Heap.lt_size e)) (Heap.get?_push_of_some _ e)) r⟩
  have S := SortsAt.data (prog := X.prog) (w := X.w) (A := X.A.in1.in1) (s := { s with heap := sortingHeap (h'.push (seqObj "list" acc.toList.toArray 0)) h'.objs.size acc.toList, toks := tk })
    (each_map (R := fun v d => ∃ as, Reads (sortingHeap (h'.push (seqObj "list" acc.toList.toArray 0)) h'.objs.size acc.toList) v d as) (fun b : V × PyData => b.2) er2) ok.alike ok.able (fun d hd => by
      obtain ⟨b, hb, rfl⟩ := List.mem_map.mp hd
      have := ok.dep b hb
      show X.A.units + 1 + 1 + b.2.depth < cLine
      omega)
  have so := sortVals_data (R := fun (u : Value) (b : V × PyData) => RelV b.1 u) (enc := fun b : V × PyData => b.2) false ee er2 ok.alike
  have vo := vals_each so
  have sl := sortVals_length (κ := dataKind (sortingHeap (h'.push (seqObj "list" acc.toList.toArray 0)) h'.objs.size acc.toList) (bs.map fun b => b.2)) false (rfl : acc.toList.length = acc.toList.length)
  generalize hout : sortVals (dataKind (sortingHeap (h'.push (seqObj "list" acc.toList.toArray 0)) h'.objs.size acc.toList) (bs.map fun b => b.2)) false acc.toList acc.toList = out at vo sl
  refine wpAny_bind (wpAny_holding (wpAny_call_entry slot_list_sort ⟨_, at1, rfl⟩ entry_list_sort
    (list_sort_vals (s := { s with heap := h'.push (seqObj "list" acc.toList.toArray 0), toks := tk }) at1 S lL ⟨_, rfl, ?_⟩) (args_list_sort _)))
  rw [hout]
  obtain ⟨e', he'⟩ := sortedHeap_at (vs := acc.toList) (out := out.toArray) at1
  have hz : ((srt bs).map (·.1)).length ≤ sizeLine := by
    rw [List.length_map, srt_len]
    exact ok.len
  refine wpAny_pure ⟨_, rfl, .ref h'.objs.size, upd H h'.objs.size (.lst ((srt bs).map (·.1))), I1.laid (t' := tk) (a := h'.objs.size) (o := .lst ((srt bs).map (·.1))) (fun b u e => ?_) (Nat.le_refl _) ⟨hz, out, e', vo, he'⟩, rfl, q _ (I1.hok.fresh (Nat.le_refl _))⟩
  have hb : b < h'.objs.size := Heap.lt_size e
  rw [sortedHeap_old (Nat.ne_of_lt hb) (by rw [size_push']; exact Nat.lt_succ_of_lt hb)]
  exact Heap.get?_push_of_some _ e
end
end L2


set_option maxRecDepth 100000
set_option maxHeartbeats 2000000
/-! dicts with tuple keys, by value -/
namespace Sh
open PySem L2 Evl
variable [Wd]
/-- a key: a tuple -/
def nkT (w : W) : Option NestedKey := match w with
  | .tup xs => (nkWs xs).bind fun ks => if (NestedKey.tup ks).depth ≤ 8 then some (.tup ks) else none
  | _ => none
def dcell (st : Store) (n : Nat) : Option (List (W × W)) := match st[n]? with
  | some (.dN kvs) => some kvs
  | _ => none
def lookW (kvs : List (W × W)) (k : NestedKey) : Option W := (kvs.find? fun e => decide (nkW e.1 = some k)).map (·.2)
def putW (kvs : List (W × W)) (k : NestedKey) (kw w : W) : List (W × W) := if (lookW kvs k).isSome = true then kvs.map (fun e => if nkW e.1 = some k then (e.1, w) else e) else kvs ++ [(kw, w)]
section
variable {K : PySem.W.Frag} {mg : MG} {F G H : Hp} {m : List Addr} {st : Store}
theorem dcell_some {n : Nat} {kvs : List (W × W)} (h : dcell st n = some kvs) : st[n]? = some (.dN kvs) := by
  unfold dcell at h
  split at h
  · cases h
    assumption
  · cases h
mutual
theorem nkh_of (e : Ex G H) : ∀ {w : W} {v : V} {k : NestedKey}, RW K G m w v → nkW w = some k → NKH H k v
  | _, _, _, .non, h => by cases h; exact .none
  | _, _, _, .bl b, h => by cases h
  | _, _, _, .int i, h => by cases h; exact .num i
  | _, _, _, .str x, h => by cases h; exact .text x
  | .tup xs, _, k, .tup h1 h2, h => by
    cases q : nkWs xs with
    | none => rw [nkW, q] at h; cases h
    | some ks =>
      rw [nkW, q] at h
      cases h
      exact .tup (e _ _ h1) (nkhs_of e h2 q)
  | .ftp xs, _, _, .ftp h1 h2, h => by cases h
  | .lst xs, _, _, .lst h1 h2, h => by cases h
  | .fz xs, _, _, .fz h1 h2, h => by cases h
  | _, _, _, .cell h1, h => by cases h
  | _, _, _, .exn _ _, h => by cases h
  | _, _, _, .xob _ _ _ _, h => by cases h
theorem nkhs_of (e : Ex G H) : ∀ {ws : List W} {vs : List V} {ks : List NestedKey}, RWs K G m ws vs → nkWs ws = some ks → NKHs H ks vs
  | _, _, _, .nil, h => by cases h; exact .nil
  | x :: xs, _, _, .cons h1 h2, h => by
    cases q : nkW x with
    | none => rw [nkWs, q] at h; cases h
    | some k =>
      cases q2 : nkWs xs with
      | none => rw [nkWs, q, q2] at h; cases h
      | some ks =>
        rw [nkWs, q, q2] at h
        cases h
        exact .cons (nkh_of e h1 q) (nkhs_of e h2 q2)
end
theorem nkT_at {w : W} {v : V} {k : NestedKey} (e : Ex G H) (r : RW K G m w v) (h : nkT w = some k) : nkW w = some k ∧ k.depth ≤ 8 ∧ ∃ a, v = .ref a ∧ NKH H k (.ref a) := by
  unfold nkT at h
  cases w with
  | tup xs =>
    dsimp only at h
    cases q : nkWs xs with
    | none => rw [q] at h; cases h
    | some ks =>
      rw [q] at h
      dsimp only [Option.bind] at h
      split at h
      · rename_i z
        cases h
        have n : nkW (.tup xs) = some (.tup ks) := by rw [nkW, q]; rfl
        cases r with
        | tup h1 h2 => exact ⟨n, z, _, rfl, nkh_of e (RW.tup h1 h2) n⟩
      · cases h
  | _ => cases h
theorem rns_keys (e : Ex G H) : ∀ {kvs : List (W × W)} {vs : List (NestedKey × Addr × V)}, RNs K G m kvs vs → DKs H vs
  | _, _, .nil => fun _ h => nomatch h
  | _, _, .cons h1 h2 h3 h4 r => fun x hx => by
    rcases List.mem_cons.mp hx with rfl | hx
    · exact ⟨nkh_of e h3 h1, h2⟩
    · exact rns_keys e r x hx
theorem rns_look {k : NestedKey} : ∀ {kvs : List (W × W)} {vs : List (NestedKey × Addr × V)}, RNs K G m kvs vs → (lookW kvs k = none ∧ lookN vs k = none) ∨ ∃ w v, lookW kvs k = some w ∧ lookN vs k = some v ∧ RW K G m w v
  | _, _, .nil => .inl ⟨rfl, rfl⟩
  | (kw, x) :: kvs, (k', ka, v) :: vs, .cons h1 h2 h3 h4 r => by
    unfold lookW lookN
    rw [List.find?_cons, List.find?_cons]
    dsimp only
    rw [h1]
    by_cases q : k' = k
    · rw [decide_eq_true q, decide_eq_true (by rw [q])]
      exact .inr ⟨x, v, rfl, rfl, h4⟩
    · rw [decide_eq_false q, decide_eq_false (fun z => q (Option.some.inj z))]
      exact rns_look r
theorem rns_map {k : NestedKey} {w : W} {v : V} (h : RW K G m w v) : ∀ {kvs : List (W × W)} {vs : List (NestedKey × Addr × V)}, RNs K G m kvs vs → RNs K G m (kvs.map fun e => if nkW e.1 = some k then (e.1, w) else e) (vs.map fun x => if x.1 = k then (x.1, x.2.1, v) else x)
  | _, _, .nil => .nil
  | (kw, x) :: kvs, (k', ka, u) :: vs, .cons h1 h2 h3 h4 r => by
    rw [List.map_cons, List.map_cons]
    dsimp only
    rw [h1]
    by_cases q : k' = k
    · rw [if_pos q, if_pos (by rw [q])]
      exact .cons h1 h2 h3 h (rns_map h r)
    · rw [if_neg q, if_neg (fun z => q (Option.some.inj z))]
      exact .cons h1 h2 h3 h4 (rns_map h r)
theorem rns_app {kw w : W} {k : NestedKey} {ka : Addr} {v : V} (h1 : nkW kw = some k) (h2 : k.depth ≤ 8) (h3 : RW K G m kw (.ref ka)) (h4 : RW K G m w v) : ∀ {kvs : List (W × W)} {vs : List (NestedKey × Addr × V)}, RNs K G m kvs vs → RNs K G m (kvs ++ [(kw, w)]) (vs ++ [(k, ka, v)])
  | _, _, .nil => .cons h1 h2 h3 h4 .nil
  | _, _, .cons a b c d r => .cons a b c d (rns_app h1 h2 h3 h4 r)
theorem rns_put {kw w : W} {k : NestedKey} {ka : Addr} {v : V} {kvs : List (W × W)} {vs : List (NestedKey × Addr × V)} (h1 : nkW kw = some k) (h2 : k.depth ≤ 8) (h3 : RW K G m kw (.ref ka)) (h4 : RW K G m w v) (r : RNs K G m kvs vs) : RNs K G m (putW kvs k kw w) (putN vs k ka v) := by
  unfold putW putN
  rcases rns_look (k := k) r with ⟨e1, e2⟩ | ⟨x, y, e1, e2, _⟩
  · rw [e1, e2, if_neg (by decide), if_neg (by decide)]
    exact rns_app h1 h2 h3 h4 r
  · rw [e1, e2]
    simp only [Option.isSome_some, if_true]
    exact rns_map h4 r
theorem RNs.length : ∀ {kvs : List (W × W)} {vs : List (NestedKey × Addr × V)}, RNs K G m kvs vs → kvs.length = vs.length
  | _, _, .nil => rfl
  | _, _, .cons _ _ _ _ r => by rw [List.length_cons, List.length_cons, RNs.length r]
theorem dcell_at (S : Sim K mg F G m st H) {n : Nat} {v : V} {kvs : List (W × W)} (r : RW K G m (.cell n) v) (h : dcell st n = some kvs) : ∃ a vs, v = .ref a ∧ m[n]? = some a ∧ H a = some (DN Wd.P Wd.w a vs) ∧ RNs K G m kvs vs := by
  cases r with
  | @cell _ a hm =>
    obtain ⟨_, vs, h1, h2⟩ := S.ok n _ a (dcell_some h) hm
    exact ⟨a, vs, rfl, hm, h1, h2⟩
end
/-- {} -/
def dDictN : Env → M W := fun env st => .ok (.cell st.length) (st ++ [.dN []])
def oIxN : W → W → M W := fun x y st => match x with
  | .cell n => match dcell st n, nkT y with
    | some kvs, some k => match lookW kvs k with
      | some w => .ok w st
      | none => .stuck
    | _, _ => .stuck
  | _ => .stuck
def oInN (neg : Bool) : W → W → M W := fun x y st => match y with
  | .cell n => match dcell st n, nkT x with
    | some kvs, some k => .ok (.bl (if neg then !(lookW kvs k).isSome else (lookW kvs k).isSome)) st
    | _, _ => .stuck
  | _ => .stuck
def dGetN (o : Env → M W) (ds : Env → M (List W)) : Env → M W := fun env st => (o env st).bind fun x st => match x with
  | .cell n => match dcell st n with
    | some _ => (ds env st).bind fun ws st => match ws with
      | [y, z] => match dcell st n, nkT y with
        | some kvs, some k => .ok ((lookW kvs k).getD z) st
        | _, _ => .stuck
      | _ => .stuck
    | none => .stuck
  | _ => .stuck
def dDefN (o : Env → M W) (ds : Env → M (List W)) : Env → M W := fun env st => (o env st).bind fun x st => match x with
  | .cell n => match dcell st n with
    | some _ => (ds env st).bind fun ws st => match ws with
      | [y, z] => match dcell st n, nkT y with
        | some kvs, some k => if kvs.length < sizeLine then (match lookW kvs k with
          | some w => .ok w st
          | none => .ok z (st.set n (.dN (putW kvs k y z)))) else .stuck
        | _, _ => .stuck
      | _ => .stuck
    | none => .stuck
  | _ => .stuck
section
variable {X : Cx} {E : XK} {a b e o : Expr} {es : List Expr} {da db d dO : Env → M W} {ds : Env → M (List W)} {p pos apos : Pos}
theorem Sim.dset {K : PySem.W.Frag} {mg : MG} {F G H : Hp} {m : List Addr} {st : Store} {n : Nat} {a : Addr} {kvs kvs' : List (W × W)} {vs' : List (NestedKey × Addr × V)} (S : Sim K mg F G m st H) (h : dcell st n = some kvs) (hm : m[n]? = some a) (r : RNs K G m kvs' vs') :
    Sim K mg F G m (st.set n (.dN kvs')) (upd H a (DN Wd.P Wd.w a vs')) :=
  S.set (dcell_some h) True.intro hm ⟨(S.ok n _ a (dcell_some h) hm).1, vs', upd_same, r⟩
theorem je_dictN (hw : X.prog = Wd.P ∧ X.w = Wd.w) : JE X E (.Dict [] [] pos) dDictN := by
  refine weakE pe_newN ?_
  rintro σ H Q ⟨F, G, m, env, st, S, R, P⟩
  rw [hw.1, hw.2]
  intro q hq
  have hg := fresh_back S.ex hq
  have S2 := S.newC (c := .dN []) (p := q) (o := DN Wd.P Wd.w q []) hq ⟨hg, [], upd_same, .nil⟩
  have e : Ext G m G (m ++ [q]) := Ext.cell
  exact Post.ret (P.mono e) S2 (.cell (by rw [← S.len, List.getElem?_append_right (Nat.le_refl _), Nat.sub_self]; rfl))
theorem ok_ixN {K : PySem.W.Frag} {mg : MG} : OpOk K mg E (rNAt Wd.P Wd.w) oIxN := by
  intro F G m st H x y v u Q S r1 r2 P
  unfold oIxN at P
  cases x with
  | cell n =>
    dsimp only at P
    split at P
    · rename_i kvs k q1 q2
      obtain ⟨a, vs, rfl, hm, hd, rs⟩ := dcell_at S r1 q1
      obtain ⟨n1, n2, ka, rfl, n3⟩ := nkT_at S.ex r2 q2
      rcases rns_look (k := k) rs with ⟨e1, e2⟩ | ⟨w, z, e1, e2, rw⟩
      · rw [e1] at P
        exact P.elim
      · rw [e1] at P
        exact ⟨a, vs, k, z, rfl, hd, rns_keys S.ex rs, ⟨ka, rfl, n3, n2⟩, e2, Post.ret P S rw⟩
    · exact P.elim
  | _ => exact P.elim
theorem je_atN (hw : X.prog = Wd.P ∧ X.w = Wd.w) (hu : X.A.units + 64 < cLine) (ha : JE X E a da) (hb : JE X E b db) (hs : PlainIx b := by exact fun _ _ => rfl) : JE X E (.Subscript a b pos) (dOp oIxN da db) :=
  je_ix (r := rNAt Wd.P Wd.w) (by rw [← hw.1, ← hw.2]; exact ix_N hu) ok_ixN ha hb hs
theorem ok_inN {K : PySem.W.Frag} {mg : MG} {neg : Bool} : OpOk K mg E (rNIn Wd.P Wd.w neg) (oInN neg) := by
  intro F G m st H x y v u Q S r1 r2 P
  unfold oInN at P
  cases y with
  | cell n =>
    dsimp only at P
    split at P
    · rename_i kvs k q1 q2
      obtain ⟨a, vs, rfl, hm, hd, rs⟩ := dcell_at S r2 q1
      obtain ⟨n1, n2, ka, rfl, n3⟩ := nkT_at S.ex r1 q2
      refine ⟨a, vs, k, rfl, hd, rns_keys S.ex rs, ⟨ka, rfl, n3, n2⟩, ?_⟩
      have e : (lookN vs k).isSome = (lookW kvs k).isSome := by
        rcases rns_look (k := k) rs with ⟨e1, e2⟩ | ⟨w, z, e1, e2, _⟩ <;> rw [e1, e2] <;> rfl
      rw [e]
      exact Post.ret P S (.bl _)
    · exact P.elim
  | _ => exact P.elim
theorem op_inN' (hw : X.prog = Wd.P ∧ X.w = Wd.w) (hu : X.A.units + 64 < cLine) : OpR X (compareOp .In) (rNIn Wd.P Wd.w false) := by rw [← hw.1, ← hw.2]; exact op_inN hu
theorem op_notInN' (hw : X.prog = Wd.P ∧ X.w = Wd.w) (hu : X.A.units + 64 < cLine) : OpR X (compareOp .NotIn) (rNIn Wd.P Wd.w true) := by rw [← hw.1, ← hw.2]; exact op_notInN hu
theorem je_inN (hw : X.prog = Wd.P ∧ X.w = Wd.w) (hu : X.A.units + 64 < cLine) (ha : JE X E a da) (hb : JE X E b db) (hm : behindInMarks .In b = false := by rfl) : JE X E (.Compare a [.In] [b] pos) (dOp (oInN false) da db) := je_cmp (op_inN' hw hu) ok_inN ha hb hm
theorem jt_inN (hw : X.prog = Wd.P ∧ X.w = Wd.w) (hu : X.A.units + 64 < cLine) (ha : JE X E a da) (hb : JE X E b db) (hm : behindInMarks .In b = false := by rfl) : JT X E (.Compare a [.In] [b] pos) (dB (dOp (oInN false) da db)) := jt_cmp (op_inN' hw hu) ok_inN ha hb hm
theorem jt_notInN (hw : X.prog = Wd.P ∧ X.w = Wd.w) (hu : X.A.units + 64 < cLine) (ha : JE X E a da) (hb : JE X E b db) (hm : behindInMarks .NotIn b = false := by rfl) : JT X E (.Compare a [.NotIn] [b] pos) (dB (dOp (oInN true) da db)) := jt_cmp (op_notInN' hw hu) ok_inN ha hb hm
/-- d[k] = v -/
def gAtN (o ix : Env → M W) : T := fun w env st => (o env st).bind fun ow st => (ix env st).bind fun iw st => match ow with
  | .cell n => match dcell st n, nkT iw with
    | some kvs, some k => if kvs.length < sizeLine then .ok env (st.set n (.dN (putW kvs k iw w))) else .stuck
    | _, _ => .stuck
  | _ => .stuck
theorem jg_atN {o i : Expr} {dO dI : Env → M W} (hw : X.prog = Wd.P ∧ X.w = Wd.w) (hu : X.A.units + 64 < cLine) (ho : JE X E0 o dO) (hi : JE X E0 i dI) (ha : ∀ v, assign (.Subscript o i pos) X.env v = (do
      let ov ← holding [v] (eval o X.env)
      let iv ← holding [v, ov] (eval i X.env)
      standAt pos
      holding [v, ov, iv] (setItem ov iv v)
      release [v, ov, iv] []) := by intro _; rfl) : JG X (.Subscript o i pos) [] (gAtN dO dI) := by
  refine weakG (pg_sub ho hi (ps_setN hu) ha) ?_
  rintro v σ H Q ⟨F, G, m, env, st, w, S, R, r, P⟩
  rw [hw.1, hw.2]
  refine ⟨F, G, m, env, st, S, R, (post_of (R := RW) P).imp fun ov H1 ⟨G1, m1, ow, st1, e1, S1, r1, P1⟩ => ?_⟩
  refine ⟨F, G1, m1, env, st1, S1, R.mono e1, (post_of (R := RW) P1).imp fun iv H2 ⟨G2, m2, iw, st2, e2, S2, r2, P2⟩ => ?_⟩
  cases ow with
  | cell n =>
    dsimp only at P2
    split at P2
    · rename_i kvs k q1 q2
      split at P2
      · rename_i z
        obtain ⟨a, vs, rfl, hm, hd, rs⟩ := dcell_at S2 (RW.mono e2 r1) q1
        obtain ⟨n1, n2, ka, rfl, n3⟩ := nkT_at S2.ex r2 q2
        have rr := RW.mono e2 (RW.mono e1 r)
        refine ⟨a, vs, k, ka, rfl, rfl, hd, rns_keys S2.ex rs, n3, n2, by rw [← rs.length]; exact z, ?_⟩
        have S3 := Sim.dset S2 q1 hm (rns_put n1 n2 r2 rr rs)
        exact P2 G2 m2 σ _ (Ext.refl G2 m2) S3 ((R.mono e1).mono e2) fun _ _ => rfl
      · exact P2.elim
    · exact P2.elim
  | _ => exact P2.elim
theorem je_getN (hw : X.prog = Wd.P ∧ X.w = Wd.w) (hu : X.A.units + 64 < cLine) (ho : JE X E o dO) (ha : JA X E (e :: es) ds) (hbase : attributeBase o "get" X.env (eval o X.env) = eval o X.env := by rfl)
    (hfew : ((backTo pos (starEach (e :: es) X.env)).all (fun x => !x.1) && (backToKw pos (keywordEach [] X.env)).all (fun x => x.1.isSome) && decide ((e :: es).length + ([] : List Keyword).length + (if ([] : List Keyword).isEmpty then 0 else 1) < 30)) = true := by rfl)
    (hline : (apos.endLine == pos.line) = true := by rfl) (hs : starEach (e :: es) X.env = (false, eval e X.env) :: starEach es X.env := by rfl) (hplain : (backTo pos (starEach es X.env)).any (·.1) = false := by rfl) :
    JE X E (.Call (.Attribute o "get" apos) (e :: es) [] pos) (dGetN dO ds) := by
  refine weakE (pe_mN F.slot_dict_get F.type_dict_get (mt_getN hu) ho ha hbase hfew hline hs hplain) ?_
  rintro σ H Q ⟨F, G, m, env, st, S, R, P⟩
  rw [hw.1, hw.2]
  refine ⟨F, G, m, env, st, S, R, (P.bind (R := RW)).imp fun v H1 ⟨G1, m1, x, st1, e1, S1, r1, P1⟩ => ?_⟩
  cases x with
  | cell n =>
    dsimp only at P1
    split at P1
    · rename_i kvs0 q0
      obtain ⟨a, vs0, rfl, hm, hd0, _⟩ := dcell_at S1 r1 q0
      refine ⟨⟨a, vs0, rfl, hd0⟩, F, G1, m1, env, st1, S1, R.mono e1, (P1.bind (R := RA)).imp fun us H2 ⟨G2, m2, ws, st2, e2, S2, r2, P2⟩ => ?_⟩
      match ws, r2, P2 with
      | [y, z], .cons ry (.cons rz .nil), P2 =>
        dsimp only at P2
        split at P2
        · rename_i kvs k q1 q2
          obtain ⟨a', vs, ea, hm', hd, rs⟩ := dcell_at S2 (RW.mono e2 r1) q1
          cases ea
          obtain ⟨n1, n2, ka, rfl, n3⟩ := nkT_at S2.ex ry q2
          refine ⟨a, vs, k, .ref ka, _, rfl, rfl, hd, rns_keys S2.ex rs, ⟨ka, rfl, n3, n2⟩, ?_⟩
          rcases rns_look (k := k) rs with ⟨e1, e2⟩ | ⟨w, zz, e1, e2, rw⟩
          · rw [e1] at P2
            rw [e2]
            exact Post.ret P2 S2 rz
          · rw [e1] at P2
            rw [e2]
            exact Post.ret P2 S2 rw
        · exact P2.elim
      | [], _, P2 => exact P2.elim
      | [_], _, P2 => exact P2.elim
      | _ :: _ :: _ :: _, _, P2 => exact P2.elim
    · exact P1.elim
  | _ => exact P1.elim
theorem je_defN (hw : X.prog = Wd.P ∧ X.w = Wd.w) (hu : X.A.units + 64 < cLine) (ho : JE X E o dO) (ha : JA X E (e :: es) ds) (hbase : attributeBase o "setdefault" X.env (eval o X.env) = eval o X.env := by rfl)
    (hfew : ((backTo pos (starEach (e :: es) X.env)).all (fun x => !x.1) && (backToKw pos (keywordEach [] X.env)).all (fun x => x.1.isSome) && decide ((e :: es).length + ([] : List Keyword).length + (if ([] : List Keyword).isEmpty then 0 else 1) < 30)) = true := by rfl)
    (hline : (apos.endLine == pos.line) = true := by rfl) (hs : starEach (e :: es) X.env = (false, eval e X.env) :: starEach es X.env := by rfl) (hplain : (backTo pos (starEach es X.env)).any (·.1) = false := by rfl) :
    JE X E (.Call (.Attribute o "setdefault" apos) (e :: es) [] pos) (dDefN dO ds) := by
  refine weakE (pe_mN F.slot_dict_setdefault F.type_dict_setdefault (mt_defN hu) ho ha hbase hfew hline hs hplain) ?_
  rintro σ H Q ⟨F, G, m, env, st, S, R, P⟩
  rw [hw.1, hw.2]
  refine ⟨F, G, m, env, st, S, R, (P.bind (R := RW)).imp fun v H1 ⟨G1, m1, x, st1, e1, S1, r1, P1⟩ => ?_⟩
  cases x with
  | cell n =>
    dsimp only at P1
    split at P1
    · rename_i kvs0 q0
      obtain ⟨a, vs0, rfl, hm, hd0, _⟩ := dcell_at S1 r1 q0
      refine ⟨⟨a, vs0, rfl, hd0⟩, F, G1, m1, env, st1, S1, R.mono e1, (P1.bind (R := RA)).imp fun us H2 ⟨G2, m2, ws, st2, e2, S2, r2, P2⟩ => ?_⟩
      match ws, r2, P2 with
      | [y, z], .cons ry (.cons rz .nil), P2 =>
        dsimp only at P2
        split at P2
        · rename_i kvs k q1 q2
          split at P2
          · rename_i hl
            obtain ⟨a', vs, ea, hm', hd, rs⟩ := dcell_at S2 (RW.mono e2 r1) q1
            cases ea
            obtain ⟨n1, n2, ka, rfl, n3⟩ := nkT_at S2.ex ry q2
            refine ⟨a, vs, k, ka, _, rfl, rfl, hd, rns_keys S2.ex rs, n3, n2, by rw [← rs.length]; exact hl, fun v hv => ?_, fun hn => ?_⟩
            · rcases rns_look (k := k) rs with ⟨e1, e2⟩ | ⟨w, zz, e1, e2, rw⟩
              · rw [e2] at hv
                cases hv
              · rw [e2] at hv
                cases hv
                rw [e1] at P2
                exact Post.ret P2 S2 rw
            · rcases rns_look (k := k) rs with ⟨e1, e2⟩ | ⟨w, zz, e1, e2, rw⟩
              · rw [e1] at P2
                exact Post.ret P2 (Sim.dset S2 q1 hm' (rns_put n1 n2 ry rz rs)) rz
              · rw [e2] at hn
                cases hn
          · exact P2.elim
        · exact P2.elim
      | [], _, P2 => exact P2.elim
      | [_], _, P2 => exact P2.elim
      | _ :: _ :: _ :: _, _, P2 => exact P2.elim
    · exact P1.elim
  | _ => exact P1.elim
end
end Sh


set_option maxRecDepth 100000
set_option maxHeartbeats 2000000
/-! sorted, by value: lists of data, keys of dicts -/
namespace Sh
open PySem L2 Evl PySem.W
variable [Wd]
/-- fit to be sorted -/
def fitS (ds : List PyData) : Bool := ds.all (fun d => ds.all fun d' => alike d d') && ((ds.all fun d => match d with | .tuple (_ :: _) => true | _ => false) || (ds.all fun d => match d with | .none => false | .tuple _ => false | _ => true)) && ds.all (fun d => decide (d.depth ≤ 40)) && decide (ds.length ≤ sizeLine)
def leD (a b : W × PyData) : Bool := dataLe false (fun b : W × PyData => b.2) a b
def sortW (xs : List W) (ds : List PyData) : List W := ((xs.zip ds).mergeSort leD).map (·.1)
theorem fit_ok {bs : List (V × PyData)} (h : fitS (bs.map (·.2)) = true) : SortOk bs := by
  unfold fitS at h
  simp only [Bool.and_eq_true, Bool.or_eq_true, List.all_eq_true, decide_eq_true_iff] at h
  obtain ⟨⟨⟨h1, h2⟩, h3⟩, h4⟩ := h
  refine ⟨fun d hd d' hd' => h1 d hd d' hd', ?_, fun b hb => h3 _ (List.mem_map.mpr ⟨b, hb, rfl⟩), by rwa [List.length_map] at h4⟩
  rcases h2 with h2 | h2
  · refine .inl fun d hd => ?_
    have := h2 d hd
    split at this
    · exact ⟨_, _, rfl⟩
    · cases this
  · refine .inr fun d hd => ?_
    have := h2 d hd
    constructor
    · rintro rfl
      cases this
    · rintro xs rfl
      cases this
section
variable {K : PySem.W.Frag} {mg : MG} {F G H : Hp} {m : List Addr} {st : Store}
theorem triples : ∀ {xs : List W} {vs : List V} {ds : List PyData}, RWs K G m xs vs → dats xs = some ds →
    ∃ ts : List (W × V × PyData), ts.map (·.1) = xs ∧ ts.map (·.2.1) = vs ∧ ts.map (·.2.2) = ds ∧ ∀ t ∈ ts, RW K G m t.1 t.2.1 ∧ dat t.1 = some t.2.2
  | _, _, _, .nil, h => by
    cases h
    exact ⟨[], rfl, rfl, rfl, fun _ h => nomatch h⟩
  | x :: xs, v :: vs, _, .cons r rs, h => by
    cases q : dat x with
    | none => rw [dats, q] at h; cases h
    | some d =>
      cases q2 : dats xs with
      | none => rw [dats, q, q2] at h; cases h
      | some ds =>
        rw [dats, q, q2] at h
        cases h
        obtain ⟨ts, a, b, c, e⟩ := triples rs q2
        refine ⟨(x, v, d) :: ts, by rw [List.map_cons, a], by rw [List.map_cons, b], by rw [List.map_cons, c], fun t ht => ?_⟩
        rcases List.mem_cons.mp ht with rfl | ht
        · exact ⟨r, q⟩
        · exact e t ht
theorem zip_map {α β γ : Type} (f : γ → α) (g : γ → β) : ∀ ts : List γ, (ts.map f).zip (ts.map g) = ts.map fun t => (f t, g t)
  | [] => rfl
  | t :: ts => by rw [List.map_cons, List.map_cons, List.zip_cons_cons, zip_map f g ts, List.map_cons]
theorem rws_all : ∀ {ts : List (W × V × PyData)}, (∀ t ∈ ts, RW K G m t.1 t.2.1) → RWs K G m (ts.map (·.1)) (ts.map (·.2.1))
  | [], _ => .nil
  | t :: ts, h => .cons (h t List.mem_cons_self) (rws_all fun t ht => h t (List.mem_cons_of_mem _ ht))
/-- sorted here, sorted there -/
theorem sort_both {xs : List W} {vs : List V} {ds : List PyData} (r : RWs K G m xs vs) (h : dats xs = some ds) :
    ∃ bs : List (V × PyData), bs.map (·.1) = vs ∧ bs.map (·.2) = ds ∧ (∀ b ∈ bs, ∃ w, RW K G m w b.1 ∧ dat w = some b.2) ∧ RWs K G m (sortW xs ds) ((srt bs).map (·.1)) := by
  obtain ⟨ts, rfl, rfl, rfl, ht⟩ := triples r h
  refine ⟨ts.map (·.2), by rw [List.map_map]; rfl, by rw [List.map_map]; rfl, fun b hb => ?_, ?_⟩
  · obtain ⟨t, hm, rfl⟩ := List.mem_map.mp hb
    exact ⟨t.1, ht t hm⟩
  · have e1 : sortW (ts.map (·.1)) (ts.map (·.2.2)) = (ts.mergeSort (fun a b => dataLe false (fun t : W × V × PyData => t.2.2) a b)).map (·.1) := by
      unfold sortW
      rw [zip_map, ← List.map_mergeSort (f := fun t : W × V × PyData => (t.1, t.2.2)) (s := leD) (r := fun a b => dataLe false (fun t : W × V × PyData => t.2.2) a b) (fun a _ b _ => rfl), List.map_map]
      rfl
    have e2 : (srt (ts.map (·.2))).map (·.1) = (ts.mergeSort (fun a b => dataLe false (fun t : W × V × PyData => t.2.2) a b)).map (·.2.1) := by
      unfold srt
      rw [← List.map_mergeSort (f := fun t : W × V × PyData => t.2) (s := dataLe false fun b : V × PyData => b.2) (r := fun a b => dataLe false (fun t : W × V × PyData => t.2.2) a b) (fun a _ b _ => rfl), List.map_map]
      rfl
    rw [e1, e2]
    exact rws_all fun t hm => (ht t ((List.mergeSort_perm _ _).mem_iff.mp hm)).1
end
def cSortedD : List W → M (List W) := fun ws st => match ws with
  | [w] => match lview w st with
    | some xs => match dats xs with
      | some ds => if fitS ds = true then .ok (sortW xs ds) st else .stuck
      | none => .stuck
    | none => .stuck
  | _ => .stuck
def cSortedN : List W → M (List W) := fun ws st => match ws with
  | [.cell n] => match dcell st n with
    | some kvs => match dats (kvs.map (·.1)) with
      | some ds => if fitS ds = true then .ok (sortW (kvs.map (·.1)) ds) st else .stuck
      | none => .stuck
    | none => .stuck
  | _ => .stuck
section
variable {X : Cx} {E : XK} {e : Expr} {es : List Expr} {ds : Env → M (List W)} {p pos : Pos}
theorem ok_sortD {K : PySem.W.Frag} {mg : MG} : CallOkF K mg E (rSortD K) cSortedD := by
  intro F G m st H ws vs Q S r P
  match ws, r, P with
  | [w], .cons h .nil, P =>
    unfold cSortedD at P
    dsimp only at P
    split at P
    · rename_i xs q
      split at P
      · rename_i dd q2
        split at P
        · rename_i z
          obtain ⟨l, us, rfl, h1, h2⟩ := lview_at S h q
          obtain ⟨bs, e1, e2, e3, e4⟩ := sort_both h2 q2
          refine ⟨l, bs, rfl, by rw [e1]; exact h1, fun b hb => ?_, fit_ok (by rw [e2]; exact z), fun p hp => PostF.ret P S hp e4⟩
          obtain ⟨w, hw, hd⟩ := e3 b hb
          exact dat_at S hw hd
        · exact P.elim
      · exact P.elim
    · exact P.elim
  | [], _, P => exact P.elim
  | _ :: _ :: _, _, P => exact P.elim
theorem rns_refs {K : PySem.W.Frag} {G : Hp} {m : List Addr} : ∀ {kvs : List (W × W)} {vs : List (NestedKey × Addr × V)}, RNs K G m kvs vs → RWs K G m (kvs.map (·.1)) (vs.map fun x => V.ref x.2.1)
  | _, _, .nil => .nil
  | _, _, .cons _ _ h3 _ r => .cons h3 (rns_refs r)
theorem ok_sortN {K : PySem.W.Frag} {mg : MG} : CallOkF K mg E (rSortN Wd.P Wd.w K) cSortedN := by
  intro F G m st H ws vs Q S r P
  match ws, r, P with
  | [.cell n], .cons h .nil, P =>
    unfold cSortedN at P
    dsimp only at P
    split at P
    · rename_i kvs q
      split at P
      · rename_i dd q2
        split at P
        · rename_i z
          obtain ⟨a, xs, rfl, hm, hd, rs⟩ := dcell_at S h q
          obtain ⟨bs, e1, e2, e3, e4⟩ := sort_both (rns_refs rs) q2
          refine ⟨a, xs, bs, rfl, hd, rns_keys S.ex rs, e1, fun b hb => ?_, fit_ok (by rw [e2]; exact z), fun p hp => PostF.ret P S hp e4⟩
          obtain ⟨w, hw, hd⟩ := e3 b hb
          exact dat_at S hw hd
        · exact P.elim
      · exact P.elim
    · exact P.elim
  | [], _, P => exact P.elim
  | a :: _ :: _, _, P => cases a <;> exact P.elim
  | [.non], _, P => exact P.elim
  | [.bl _], _, P => exact P.elim
  | [.int _], _, P => exact P.elim
  | [.str _], _, P => exact P.elim
  | [.tup _], _, P => exact P.elim
  | [.lst _], _, P => exact P.elim
  | [.fz _], _, P => exact P.elim
  | [.ftp _], _, P => exact P.elim
  | [.exn _ _ _ _], _, P => exact P.elim
  | [.xob _ _ _], _, P => exact P.elim
theorem jf_sortedD (hu : X.A.units + 64 < cLine) (hg : Gl X "sorted") (hm : X.mg "sorted" = none) (ha : JA X E (e :: es) ds) (he : starEach (e :: es) X.env = (false, eval e X.env) :: starEach es X.env := by rfl) (hpl : (backTo pos (starEach es X.env)).any (·.1) = false := by rfl) :
    JF X E (.Call (.Name "sorted" p) (e :: es) [] pos) (dCallF cSortedD ds) := jf_callB (cr_sortD hu) ok_sortD hg hm (by decide +kernel) ha (by decide) (by decide) he hpl
theorem jf_sortedN (hw : X.prog = Wd.P ∧ X.w = Wd.w) (hc : X.calm = true) (hu : X.A.units + 64 < cLine) (hg : Gl X "sorted") (hm : X.mg "sorted" = none) (ha : JA X E (e :: es) ds) (he : starEach (e :: es) X.env = (false, eval e X.env) :: starEach es X.env := by rfl) (hpl : (backTo pos (starEach es X.env)).any (·.1) = false := by rfl) :
    JF X E (.Call (.Name "sorted" p) (e :: es) [] pos) (dCallF cSortedN ds) := jf_callB (r := rSortN Wd.P Wd.w X.K) (by rw [← hw.1, ← hw.2]; exact cr_sortN hc hu) ok_sortN hg hm (by decide +kernel) ha (by decide) (by decide) he hpl
end
end Sh


set_option maxRecDepth 100000
set_option maxHeartbeats 2000000
/-! min and max of two, a < b: over data -/
namespace L2
open PySem PySem.Spec PySem.W
section
variable {prog : Program} {w : World} {A : Around} {E : Value → Shared → Prop} {s : Shared}

theorem min_two_data {a b : Value} {da db : PyData} {as bs : List Addr} {Q : Value → Shared → Prop} (hh : A.handled = none) (ra : Reads s.heap a da as) (rb : Reads s.heap b db bs) (al : PySem.W.AlikeAll [da, db])
    (hu : A.units + 1 + PyData.depthAll [da, db] < cLine) (h : ∀ h' tk, (∀ c o, s.heap.get? c = some o → h'.get? c = some o) → Q (if dataLt db da = true then b else a) { s with heap := h', toks := tk }) : wpAny (model prog w) A (call (.builtin "min") [a, b]) Q E s := by
  have nm : (toString "min" ++ toString ".loop" : String) = "min.loop" := by decide
  have hT : (s.heap.push { cls := .type "tuple", data := .seq #[a, b] }).IsTuple s.heap.objs.size #[a, b] := ⟨_, Heap.get?_push_size _ rfl, rfl, 0, rfl⟩
  have old : ∀ c o, s.heap.get? c = some o → (s.heap.push { cls := .type "tuple", data := .seq #[a, b] }).get? c = some o := fun c o e => Heap.get?_push_of_some _ e
  have rr : ∃ cs, ReadsAll (s.heap.push { cls := .type "tuple", data := .seq #[a, b] }) (#[a, b] : Array Value).toList [da, db] cs := ⟨_, .cons (PyProof.Rows.Reads.keeps old ra) (.cons (PyProof.Rows.Reads.keeps old rb) .nil)⟩
  obtain ⟨cs, rr⟩ := rr
  refine call_function_tree F.kind_min F.plain_min F.entry_min (F.args_min2 _ _) (show wpAny _ A.in1 (Builtin.Builtins.bindParams "min" ["key", "default"] 0 ⟨[], []⟩ >>= _) _ _ s from ?_)
  refine wpAny_bind (wpAny_of_eq (show Builtin.Builtins.bindParams "min" ["key", "default"] 0 ⟨[], []⟩ = (pure [none, none] : Sem (List (Option Value))) from rfl) (show wpAny _ A.in1 (newTuple [a, b] >>= _) _ _ s from ?_))
  refine wpAny_bind (wpAny_newObj_type (wpAny_bind (iter_tupleW (A := A.in1) (s := { s with heap := s.heap.push { cls := .type "tuple", data := .seq #[a, b] } }) hh hT fun s2 e W st hfp hw hk => ?_)))
  refine wpAny_bind (wpAny_newObj_type ?_)
  rw [nm]
  have nf : s2.heap.objs.size ∉ [(s.heap.push { cls := .type "tuple", data := .seq #[a, b] }).objs.size, s.heap.objs.size] := fun hm => Nat.lt_irrefl _ (hfp _ hm)
  have nS : (s.heap.push { cls := .type "tuple", data := .seq #[a, b] }).get? s2.heap.objs.size = none := by
    cases q : (s.heap.push { cls := .type "tuple", data := .seq #[a, b] }).get? s2.heap.objs.size with
    | none => rfl
    | some o => exact absurd (Heap.lt_size (hk _ _ q)) (Nat.lt_irrefl _)
  have W' := W
  refine wpAny_pure ⟨plainId_quiet F.plain_min_loop _, codeAny_min_loop_firstH W' (s.heap.push { cls := .type "tuple", data := .seq #[a, b] }) hw _ (cmpIn_lt (A := A.in1) (s := { s with heap := s.heap.push { cls := .type "tuple", data := .seq #[a, b] } }) rr al (by show A.units + 1 + _ < _; exact hu))
    s2.heap.objs.size nf nS [] (show 0 < 2 from by decide) (fun c o q => Heap.get?_push_of_some _ (hk c o q)) (W.frame _ _ _ _ st (Nat.le_refl _) fun c _ o q => Heap.get?_push_of_some _ q) (Heap.get?_push_size _ rfl) fun v s' hP m => ?_⟩
  subst e
  rcases s' with ⟨h', g', d', t', o'⟩
  have e1 : g' = s.gens := m.gens
  have e2 : d' = s.drawn := m.drawn
  have e3 : o' = s.os := m.os
  subst e1 e2 e3
  have kk : ∀ c o, s.heap.get? c = some o → h'.get? c = some o := fun c o q => by
    have q1 := old c o q
    have q2 := hk c o q1
    refine m.heap c o (fun z => ?_) (Heap.get?_push_of_some _ q2)
    rcases List.mem_cons.mp z with z | z
    · exact Nat.ne_of_lt (Heap.lt_size q2) z
    · exact hw c o q1 z
  have ev : v = if dataLt db da = true then b else a := by
    have z : (#[a, b] : Array Value)[argBest (fun i j => dataLt ([da, db].getD i .none) ([da, db].getD j .none)) 1]? = some v := hP
    by_cases q : dataLt db da = true
    · have e : argBest (fun i j => dataLt ([da, db].getD i .none) ([da, db].getD j .none)) 1 = 1 := by simp [argBest, q]
      rw [e] at z
      rw [if_pos q]
      simpa using z.symm
    · have e : argBest (fun i j => dataLt ([da, db].getD i .none) ([da, db].getD j .none)) 1 = 0 := by simp [argBest, q]
      rw [e] at z
      rw [if_neg q]
      simpa using z.symm
  rw [ev]
  exact h h' t' kk

theorem max_two_data {a b : Value} {da db : PyData} {as bs : List Addr} {Q : Value → Shared → Prop} (hh : A.handled = none) (ra : Reads s.heap a da as) (rb : Reads s.heap b db bs) (al : PySem.W.AlikeAll [da, db])
    (hu : A.units + 1 + PyData.depthAll [da, db] < cLine) (h : ∀ h' tk, (∀ c o, s.heap.get? c = some o → h'.get? c = some o) → Q (if dataLt da db = true then b else a) { s with heap := h', toks := tk }) : wpAny (model prog w) A (call (.builtin "max") [a, b]) Q E s := by
  have nm : (toString "max" ++ toString ".loop" : String) = "max.loop" := by decide
  have hT : (s.heap.push { cls := .type "tuple", data := .seq #[a, b] }).IsTuple s.heap.objs.size #[a, b] := ⟨_, Heap.get?_push_size _ rfl, rfl, 0, rfl⟩
  have old : ∀ c o, s.heap.get? c = some o → (s.heap.push { cls := .type "tuple", data := .seq #[a, b] }).get? c = some o := fun c o e => Heap.get?_push_of_some _ e
  have rr : ∃ cs, ReadsAll (s.heap.push { cls := .type "tuple", data := .seq #[a, b] }) (#[a, b] : Array Value).toList [da, db] cs := ⟨_, .cons (PyProof.Rows.Reads.keeps old ra) (.cons (PyProof.Rows.Reads.keeps old rb) .nil)⟩
  obtain ⟨cs, rr⟩ := rr
  refine call_function_tree F.kind_max F.plain_max F.entry_max (F.args_max2 _ _) (show wpAny _ A.in1 (Builtin.Builtins.bindParams "max" ["key", "default"] 0 ⟨[], []⟩ >>= _) _ _ s from ?_)
  refine wpAny_bind (wpAny_of_eq (show Builtin.Builtins.bindParams "max" ["key", "default"] 0 ⟨[], []⟩ = (pure [none, none] : Sem (List (Option Value))) from rfl) (show wpAny _ A.in1 (newTuple [a, b] >>= _) _ _ s from ?_))
  refine wpAny_bind (wpAny_newObj_type (wpAny_bind (iter_tupleW (A := A.in1) (s := { s with heap := s.heap.push { cls := .type "tuple", data := .seq #[a, b] } }) hh hT fun s2 e W st hfp hw hk => ?_)))
  refine wpAny_bind (wpAny_newObj_type ?_)
  rw [nm]
  have nf : s2.heap.objs.size ∉ [(s.heap.push { cls := .type "tuple", data := .seq #[a, b] }).objs.size, s.heap.objs.size] := fun hm => Nat.lt_irrefl _ (hfp _ hm)
  have nS : (s.heap.push { cls := .type "tuple", data := .seq #[a, b] }).get? s2.heap.objs.size = none := by
    cases q : (s.heap.push { cls := .type "tuple", data := .seq #[a, b] }).get? s2.heap.objs.size with
    | none => rfl
    | some o => exact absurd (Heap.lt_size (hk _ _ q)) (Nat.lt_irrefl _)
  have W' := W
  refine wpAny_pure ⟨plainId_quiet F.plain_max_loop _, codeAny_max_loop_firstH W' (s.heap.push { cls := .type "tuple", data := .seq #[a, b] }) hw _ (cmpIn_gt (A := A.in1) (s := { s with heap := s.heap.push { cls := .type "tuple", data := .seq #[a, b] } }) rr al (by show A.units + 1 + _ < _; exact hu))
    s2.heap.objs.size nf nS [] (show 0 < 2 from by decide) (fun c o q => Heap.get?_push_of_some _ (hk c o q)) (W.frame _ _ _ _ st (Nat.le_refl _) fun c _ o q => Heap.get?_push_of_some _ q) (Heap.get?_push_size _ rfl) fun v s' hP m => ?_⟩
  subst e
  rcases s' with ⟨h', g', d', t', o'⟩
  have e1 : g' = s.gens := m.gens
  have e2 : d' = s.drawn := m.drawn
  have e3 : o' = s.os := m.os
  subst e1 e2 e3
  have kk : ∀ c o, s.heap.get? c = some o → h'.get? c = some o := fun c o q => by
    have q1 := old c o q
    have q2 := hk c o q1
    refine m.heap c o (fun z => ?_) (Heap.get?_push_of_some _ q2)
    rcases List.mem_cons.mp z with z | z
    · exact Nat.ne_of_lt (Heap.lt_size q2) z
    · exact hw c o q1 z
  have ev : v = if dataLt da db = true then b else a := by
    have z : (#[a, b] : Array Value)[argBest (fun i j => dataLt ([da, db].getD j .none) ([da, db].getD i .none)) 1]? = some v := hP
    by_cases q : dataLt da db = true
    · have e : argBest (fun i j => dataLt ([da, db].getD j .none) ([da, db].getD i .none)) 1 = 1 := by simp [argBest, q]
      rw [e] at z
      rw [if_pos q]
      simpa using z.symm
    · have e : argBest (fun i j => dataLt ([da, db].getD j .none) ([da, db].getD i .none)) 1 = 0 := by simp [argBest, q]
      rw [e] at z
      rw [if_neg q]
      simpa using z.symm
  rw [ev]
  exact h h' t' kk
end
end L2
namespace L2
open PySem PySem.Spec PySem.W
/-- two data fit to be compared -/
structure TwoOk (d e : PyData) : Prop where
  al : PySem.W.AlikeAll [d, e]
  dep : PyData.depthAll [d, e] ≤ 40
section
variable {X : Cx}
def rTwoD (K : PySem.W.Frag) (f : PyData → PyData → Bool) : List V → Hp → VK → Prop := fun xs H Q => ∃ x y d e, xs = [x, y] ∧ Dp K H x d ∧ Dp K H y e ∧ TwoOk d e ∧ Q (if f d e = true then y else x) H
theorem cr_min2D (hc : X.calm = true) (hu : X.A.units + 64 < cLine) : CallR X (.builtin "min") (rTwoD X.K fun d e => dataLt e d) := by
  intro pins s σ H xs us Q I r h
  obtain ⟨x, y, d, e, rfl, h1, h2, ok, q⟩ := h
  match us, r with
  | [u, v], .cons r1 (.cons r2 .nil) =>
    obtain ⟨as, ra⟩ := Dp.reads I _ _ _ h1 r1
    obtain ⟨bs, rb⟩ := Dp.reads I _ _ _ h2 r2
    refine min_two_data (I.ok.hd hc) ra rb ok.al (by have := ok.dep; omega) fun h' tk k => ⟨_, H, I.kept k, ?_, q⟩
    by_cases z : dataLt e d = true
    · rw [if_pos z, if_pos z]; exact r2
    · rw [if_neg z, if_neg z]; exact r1
theorem cr_max2D (hc : X.calm = true) (hu : X.A.units + 64 < cLine) : CallR X (.builtin "max") (rTwoD X.K fun d e => dataLt d e) := by
  intro pins s σ H xs us Q I r h
  obtain ⟨x, y, d, e, rfl, h1, h2, ok, q⟩ := h
  match us, r with
  | [u, v], .cons r1 (.cons r2 .nil) =>
    obtain ⟨as, ra⟩ := Dp.reads I _ _ _ h1 r1
    obtain ⟨bs, rb⟩ := Dp.reads I _ _ _ h2 r2
    refine max_two_data (I.ok.hd hc) ra rb ok.al (by have := ok.dep; omega) fun h' tk k => ⟨_, H, I.kept k, ?_, q⟩
    by_cases z : dataLt d e = true
    · rw [if_pos z, if_pos z]; exact r2
    · rw [if_neg z, if_neg z]; exact r1
def rLtD (K : PySem.W.Frag) : R2 := fun x y H Q => ∃ d e, Dp K H x d ∧ Dp K H y e ∧ TwoOk d e ∧ Q (.bl (dataLt d e)) H
theorem op_ltD (hu : X.A.units + 64 < cLine) : OpR X (compareOp .Lt) (rLtD X.K) := by
  intro pins s σ H x y v u Q I rx ry h
  obtain ⟨d, e, h1, h2, ok, q⟩ := h
  obtain ⟨as, ra⟩ := Dp.reads I _ _ _ h1 rx
  obtain ⟨bs, rb⟩ := Dp.reads I _ _ _ h2 ry
  have m1 : d ∈ [d, e] := List.mem_cons_self
  have m2 : e ∈ [d, e] := List.mem_cons_of_mem _ List.mem_cons_self
  have dd : d.depth ≤ PyData.depthAll [d, e] := by
    simp only [PyData.depthAll]
    exact Nat.le_max_left _ _
  refine lt_data ra rb (ok.al.1 d m1 e m2) (ok.al.2 d m1) (by have := ok.dep; have := Nat.min_le_left d.depth e.depth; omega) ⟨.bl _, H, I, rfl, q⟩
end
end L2
namespace Sh
open PySem L2 Evl PySem.W
variable [Wd]
def notNone : PyData → Bool
  | .none => false
  | _ => true
def fit2 (d e : PyData) : Bool := alike d d && alike d e && alike e d && alike e e && notNone d && notNone e && decide (PyData.depthAll [d, e] ≤ 40)
theorem fit2_ok {d e : PyData} (h : fit2 d e = true) : TwoOk d e := by
  unfold fit2 at h
  simp only [Bool.and_eq_true, decide_eq_true_iff] at h
  obtain ⟨⟨⟨⟨⟨⟨a, b⟩, c⟩, f⟩, n1⟩, n2⟩, z⟩ := h
  refine ⟨⟨fun x hx y hy => ?_, fun x hx => ?_⟩, z⟩
  · simp only [List.mem_cons, List.not_mem_nil, or_false] at hx hy
    rcases hx with rfl | rfl <;> rcases hy with rfl | rfl <;> assumption
  · simp only [List.mem_cons, List.not_mem_nil, or_false] at hx
    rcases hx with rfl | rfl
    · rintro rfl; cases n1
    · rintro rfl; cases n2
def cTwoD (f : PyData → PyData → Bool) : List W → M W := fun ws st => match ws with
  | [x, y] => match dat x, dat y with
    | some d, some e => if fit2 d e = true then .ok (if f d e = true then y else x) st else .stuck
    | _, _ => .stuck
  | _ => .stuck
def oLtD : W → W → M W := fun x y st => match dat x, dat y with
  | some d, some e => if fit2 d e = true then .ok (.bl (dataLt d e)) st else .stuck
  | _, _ => .stuck
section
variable {X : Cx} {E : XK} {a b e : Expr} {es : List Expr} {da db : Env → M W} {ds : Env → M (List W)} {p pos : Pos}
theorem ok_twoD {K : PySem.W.Frag} {mg : MG} {f : PyData → PyData → Bool} : CallOk K mg E (rTwoD K f) (cTwoD f) := by
  intro F G m st H ws vs Q S r P
  match ws, r, P with
  | [x, y], .cons r1 (.cons r2 .nil), P =>
    unfold cTwoD at P
    dsimp only at P
    split at P
    · rename_i d e q1 q2
      split at P
      · rename_i z
        refine ⟨_, _, d, e, rfl, dat_at S r1 q1, dat_at S r2 q2, fit2_ok z, Post.ret P S ?_⟩
        by_cases w : f d e = true
        · rw [if_pos w, if_pos w]; exact r2
        · rw [if_neg w, if_neg w]; exact r1
      · exact P.elim
    · exact P.elim
  | [], _, P => exact P.elim
  | [_], _, P => exact P.elim
  | _ :: _ :: _ :: _, _, P => exact P.elim
theorem je_min2D (hc : X.calm = true) (hu : X.A.units + 64 < cLine) (hg : Gl X "min") (hm : X.mg "min" = none) (ha : JA X E (e :: es) ds) (he : starEach (e :: es) X.env = (false, eval e X.env) :: starEach es X.env := by rfl) (hpl : (backTo pos (starEach es X.env)).any (·.1) = false := by rfl) :
    JE X E (.Call (.Name "min" p) (e :: es) [] pos) (dCallB (cTwoD fun d e => dataLt e d) ds) := je_callB (cr_min2D hc hu) ok_twoD hg hm (by decide +kernel) ha (by decide) (by decide) he hpl
theorem je_max2D (hc : X.calm = true) (hu : X.A.units + 64 < cLine) (hg : Gl X "max") (hm : X.mg "max" = none) (ha : JA X E (e :: es) ds) (he : starEach (e :: es) X.env = (false, eval e X.env) :: starEach es X.env := by rfl) (hpl : (backTo pos (starEach es X.env)).any (·.1) = false := by rfl) :
    JE X E (.Call (.Name "max" p) (e :: es) [] pos) (dCallB (cTwoD fun d e => dataLt d e) ds) := je_callB (cr_max2D hc hu) ok_twoD hg hm (by decide +kernel) ha (by decide) (by decide) he hpl
theorem ok_ltD {K : PySem.W.Frag} {mg : MG} : OpOk K mg E (rLtD K) oLtD := by
  intro F G m st H x y v u Q S r1 r2 P
  unfold oLtD at P
  split at P
  · rename_i d e q1 q2
    split at P
    · rename_i z
      exact ⟨d, e, dat_at S r1 q1, dat_at S r2 q2, fit2_ok z, Post.ret P S (.bl _)⟩
    · exact P.elim
  · exact P.elim
theorem je_ltD (hu : X.A.units + 64 < cLine) (ha : JE X E a da) (hb : JE X E b db) : JE X E (.Compare a [.Lt] [b] pos) (dOp oLtD da db) := je_cmp (op_ltD hu) ok_ltD ha hb (nomark _)
theorem jt_ltD (hu : X.A.units + 64 < cLine) (ha : JE X E a da) (hb : JE X E b db) : JT X E (.Compare a [.Lt] [b] pos) (dB (dOp oLtD da db)) := jt_cmp (op_ltD hu) ok_ltD ha hb (nomark _)
end
end Sh


set_option maxRecDepth 100000
set_option maxHeartbeats 2000000
/-! dicts with texts and numbers as keys; extend, reverse; a, b, .. = a list -/
namespace Sh
open PySem L2 Evl
variable [Wd]
def keyOf : W → Option Key
  | .int i => some (.inl i)
  | .str x => some (.inr x)
  | _ => none
def kcell (st : Store) (n : Nat) : Option (List (Key × W)) := match st[n]? with
  | some (.dK kvs) => some kvs
  | _ => none
def valK (kvs : List (Key × W)) (k : Key) : Option W := (kvs.find? fun e => decide (e.1 = k)).map (·.2)
def putKW (kvs : List (Key × W)) (k : Key) (w : W) : List (Key × W) := if (kvs.any fun e => decide (e.1 = k)) = true then kvs.map (fun e => if e.1 = k then (e.1, w) else e) else kvs ++ [(k, w)]
section
variable {K : PySem.W.Frag} {mg : MG} {F G H : Hp} {m : List Addr} {st : Store}
theorem kcell_some {n : Nat} {kvs : List (Key × W)} (h : kcell st n = some kvs) : st[n]? = some (.dK kvs) := by
  unfold kcell at h
  split at h
  · cases h
    assumption
  · cases h
theorem kcell_at (S : Sim K mg F G m st H) {n : Nat} {v : V} {kvs : List (Key × W)} (r : RW K G m (.cell n) v) (h : kcell st n = some kvs) : ∃ a vs, v = .ref a ∧ m[n]? = some a ∧ H a = some (.dK vs) ∧ RKs K G m kvs vs := by
  cases r with
  | @cell _ a hm =>
    obtain ⟨_, vs, h1, h2⟩ := S.ok n _ a (kcell_some h) hm
    exact ⟨a, vs, rfl, hm, h1, h2⟩
theorem key_at {w : W} {v : V} {k : Key} (r : RW K G m w v) (h : keyOf w = some k) : v = kV k := by
  cases w with
  | int i => cases h; cases r; rfl
  | str x => cases h; cases r; rfl
  | _ => cases h
theorem rks_val {k : Key} : ∀ {kvs : List (Key × W)} {vs : List (Key × V)}, RKs K G m kvs vs → (valK kvs k = none ∧ valV vs k = none) ∨ ∃ w v, valK kvs k = some w ∧ valV vs k = some v ∧ RW K G m w v
  | _, _, .nil => .inl ⟨rfl, rfl⟩
  | (k', x) :: kvs, (_, v) :: vs, .cons h r => by
    unfold valK valV
    rw [List.find?_cons, List.find?_cons]
    by_cases q : k' = k
    · rw [decide_eq_true q]
      exact .inr ⟨x, v, rfl, rfl, h⟩
    · rw [decide_eq_false q]
      exact rks_val r
theorem rks_any {k : Key} : ∀ {kvs : List (Key × W)} {vs : List (Key × V)}, RKs K G m kvs vs → (kvs.any fun e => decide (e.1 = k)) = (vs.any fun e => decide (e.1 = k))
  | _, _, .nil => rfl
  | _, _, .cons h r => by rw [List.any_cons, List.any_cons, rks_any r]
theorem rks_map {k : Key} {w : W} {v : V} (h : RW K G m w v) : ∀ {kvs : List (Key × W)} {vs : List (Key × V)}, RKs K G m kvs vs → RKs K G m (kvs.map fun e => if e.1 = k then (e.1, w) else e) (vs.map fun e => if e.1 = k then (e.1, v) else e)
  | _, _, .nil => .nil
  | (k', x) :: kvs, (_, u) :: vs, .cons h1 r => by
    rw [List.map_cons, List.map_cons]
    dsimp only
    by_cases q : k' = k
    · rw [if_pos q, if_pos q]
      exact .cons h (rks_map h r)
    · rw [if_neg q, if_neg q]
      exact .cons h1 (rks_map h r)
theorem rks_put {k : Key} {w : W} {v : V} {kvs : List (Key × W)} {vs : List (Key × V)} (h : RW K G m w v) (r : RKs K G m kvs vs) : RKs K G m (putKW kvs k w) (putK vs k v) := by
  unfold putKW putK
  rw [rks_any r]
  split
  · exact rks_map h r
  · exact rks_append r (.cons h .nil)
theorem RKs.length : ∀ {kvs : List (Key × W)} {vs : List (Key × V)}, RKs K G m kvs vs → kvs.length = vs.length
  | _, _, .nil => rfl
  | _, _, .cons _ r => by rw [List.length_cons, List.length_cons, RKs.length r]
theorem Sim.kset {n : Nat} {a : Addr} {kvs kvs' : List (Key × W)} {vs' : List (Key × V)} (S : Sim K mg F G m st H) (h : kcell st n = some kvs) (hm : m[n]? = some a) (r : RKs K G m kvs' vs') : Sim K mg F G m (st.set n (.dK kvs')) (upd H a (.dK vs')) :=
  S.set (kcell_some h) True.intro hm ⟨(S.ok n _ a (kcell_some h) hm).1, vs', upd_same, r⟩
end
def dDictK : Env → M W := fun env st => .ok (.cell st.length) (st ++ [.dK []])
def dAtK (d1 d2 : Env → M W) : Env → M W := fun env st => (d1 env st).bind fun x st => (d2 env st).bind fun y st => match x with
  | .cell n => match kcell st n, keyOf y with
    | some kvs, some k => match valK kvs k with
      | some w => .ok w st
      | none => .stuck
    | _, _ => .stuck
  | _ => .stuck
def dGetK (d1 d2 d3 : Env → M W) : Env → M W := fun env st => (d1 env st).bind fun x st => match x with
  | .cell n => match kcell st n with
    | some _ => (d2 env st).bind fun y st => (d3 env st).bind fun z st => match kcell st n, keyOf y with
      | some kvs, some k => .ok ((valK kvs k).getD z) st
      | _, _ => .stuck
    | none => .stuck
  | _ => .stuck
def gAtK (o ix : Env → M W) : T := fun w env st => (o env st).bind fun ow st => (ix env st).bind fun iw st => match ow with
  | .cell n => match kcell st n, keyOf iw with
    | some kvs, some k => if kvs.length < sizeLine then .ok env (st.set n (.dK (putKW kvs k w))) else .stuck
    | _, _ => .stuck
  | _ => .stuck
def mExtend : W → List W → M W := fun x ws st => match x, ws with
  | .cell n, [w] => match lcell st n, lviewT w st with
    | some xs, some ys => if xs.length + ys.length ≤ sizeLine then .ok .non (st.set n (.lst (xs ++ ys))) else .stuck
    | _, _ => .stuck
  | _, _ => .stuck
def mReverse : W → List W → M W := fun x ws st => match x, ws with
  | .cell n, [] => match lcell st n with
    | some xs => .ok .non (st.set n (.lst xs.reverse))
    | none => .stuck
  | _, _ => .stuck
/-- a, b, .. = a list -/
def gLi (gs : Ts) : T := fun w env st => match lview w st with
  | some ws => gs ws env st
  | none => .stuck
section
variable {X : Cx} {E : XK} {a b c e o : Expr} {es : List Expr} {da db dc d dO : Env → M W} {ds : Env → M (List W)} {p pos apos cpos : Pos}
theorem hu1 {A : Around} (hu : A.units + 64 < cLine) : A.units + 1 < cLine := by omega
theorem je_dictK : JE X E (.Dict [] [] pos) dDictK := by
  refine weakE pe_dnewK ?_
  rintro σ H Q ⟨F, G, m, env, st, S, R, P⟩
  intro q hq
  have hg := fresh_back S.ex hq
  have S2 := S.newC (c := .dK []) (p := q) (o := .dK []) hq ⟨hg, [], upd_same, .nil⟩
  exact Post.ret (P.mono Ext.cell) S2 (.cell (by rw [← S.len, List.getElem?_append_right (Nat.le_refl _), Nat.sub_self]; rfl))
theorem je_atK (hu : X.A.units + 64 < cLine) (ha : JE X E a da) (hb : JE X E b db) (hs : NoSl b := by exact fun _ _ => rfl) : JE X E (.Subscript a b pos) (dAtK da db) := by
  refine weakE (pe_dget (hu1 hu) ha hb hs) ?_
  rintro σ H Q ⟨F, G, m, env, st, S, R, P⟩
  refine two S R P fun F G m st H x y v u S1 r1 r2 P1 => ?_
  cases x with
  | cell n =>
    dsimp only at P1
    split at P1
    · rename_i kvs k q1 q2
      obtain ⟨a, vs, rfl, hm, hd, rs⟩ := kcell_at S1 r1 q1
      rcases rks_val (k := k) rs with ⟨e1, e2⟩ | ⟨w, z, e1, e2, rw⟩
      · rw [e1] at P1
        exact P1.elim
      · rw [e1] at P1
        exact ⟨a, z, rfl, by rw [key_at r2 q2, ← e2]; exact DGet.k hd, Post.ret P1 S1 rw⟩
    · exact P1.elim
  | _ => exact P1.elim
theorem je_getK (hu : X.A.units + 64 < cLine) (ho : JE X E o dO) (ha : JE X E a da) (hb : JE X E b db) (m : M2 X o "get" apos a b cpos := by exact ⟨rfl, rfl, rfl, rfl⟩) : JE X E (.Call (.Attribute o "get" apos) [a, b] [] cpos) (dGetK dO da db) := by
  refine weakE (pe_dget2 (hu1 hu) ho ha hb m) ?_
  rintro σ H Q ⟨F, G, m, env, st, S, R, P⟩
  refine ⟨F, G, m, env, st, S, R, (P.bind (R := RW)).imp fun v H1 ⟨G1, m1, x, st1, e1, S1, r1, P1⟩ => ?_⟩
  cases x with
  | cell n =>
    dsimp only at P1
    split at P1
    · rename_i kvs0 q0
      obtain ⟨a, vs0, rfl, hm, hd0, _⟩ := kcell_at S1 r1 q0
      refine ⟨a, rfl, .inl ⟨vs0, .inl hd0⟩, F, G1, m1, env, st1, S1, R.mono e1, (P1.bind (R := RW)).imp fun v2 H2 ⟨G2, m2, y, st2, e2, S2, r2, P2⟩ => ?_⟩
      refine ⟨F, G2, m2, env, st2, S2, (R.mono e1).mono e2, (P2.bind (R := RW)).imp fun v3 H3 ⟨G3, m3, z, st3, e3, S3, r3, P3⟩ => ?_⟩
      split at P3
      · rename_i kvs k q1 q2
        obtain ⟨a', vs, ea, hm', hd, rs⟩ := kcell_at S3 (RW.mono e3 (RW.mono e2 r1)) q1
        cases ea
        refine ⟨valV vs k, by rw [key_at (RW.mono e3 r2) q2]; exact DGet.k hd, ?_⟩
        rcases rks_val (k := k) rs with ⟨e1, e2⟩ | ⟨w, zz, e1, e2, rw⟩
        · rw [e1] at P3
          rw [e2]
          exact Post.ret P3 S3 r3
        · rw [e1] at P3
          rw [e2]
          exact Post.ret P3 S3 rw
      · exact P3.elim
    · exact P1.elim
  | _ => exact P1.elim
theorem jg_atK {o i : Expr} {dO dI : Env → M W} (hu : X.A.units + 64 < cLine) (ho : JE X E0 o dO) (hi : JE X E0 i dI) (ha : ∀ v, assign (.Subscript o i pos) X.env v = (do
      let ov ← holding [v] (eval o X.env)
      let iv ← holding [v, ov] (eval i X.env)
      standAt pos
      holding [v, ov, iv] (setItem ov iv v)
      release [v, ov, iv] []) := by intro _; rfl) : JG X (.Subscript o i pos) [] (gAtK dO dI) := by
  refine weakG (pg_sub ho hi (set_dict (hu1 hu)) ha) ?_
  rintro v σ H Q ⟨F, G, m, env, st, w, S, R, r, P⟩
  refine ⟨F, G, m, env, st, S, R, (post_of (R := RW) P).imp fun ov H1 ⟨G1, m1, ow, st1, e1, S1, r1, P1⟩ => ?_⟩
  refine ⟨F, G1, m1, env, st1, S1, R.mono e1, (post_of (R := RW) P1).imp fun iv H2 ⟨G2, m2, iw, st2, e2, S2, r2, P2⟩ => ?_⟩
  cases ow with
  | cell n =>
    dsimp only at P2
    split at P2
    · rename_i kvs k q1 q2
      split at P2
      · rename_i z
        obtain ⟨a, vs, rfl, hm, hd, rs⟩ := kcell_at S2 (RW.mono e2 r1) q1
        have rr := RW.mono e2 (RW.mono e1 r)
        refine ⟨a, _, rfl, by rw [key_at r2 q2]; exact DPut.k hd (by rw [← rs.length]; exact z), ?_⟩
        exact P2 G2 m2 σ _ (Ext.refl G2 m2) (Sim.kset S2 q1 hm (rks_put rr rs)) ((R.mono e1).mono e2) fun _ _ => rfl
      · exact P2.elim
    · exact P2.elim
  | _ => exact P2.elim
theorem ok_extend {K : PySem.W.Frag} {mg : MG} : MtOk K mg E rExtend mExtend := by
  intro F G m st H x v ws vs Q S r rs P
  match x, ws, rs, P with
  | .cell n, [w], .cons r1 .nil, P =>
    unfold mExtend at P
    dsimp only at P
    split at P
    · rename_i xs ys q1 q2
      split at P
      · rename_i z
        obtain ⟨a, us, rfl, hm, h1, h2, h3⟩ := cell_at S r q1
        obtain ⟨b, zs, rfl, g1, g2⟩ := lviewT_at S r1 q2
        refine ⟨a, b, us, zs, rfl, rfl, h1, g1, by rw [← h2.length, ← g2.length]; exact z, ?_⟩
        exact P.ret (h3 _ _ G m (Ext.refl G m) (h2.append g2)) .non
      · exact P.elim
    · exact P.elim
  | .cell n, [], _, P => exact P.elim
  | .cell n, _ :: _ :: _, _, P => exact P.elim
  | .non, _, _, P => exact P.elim
  | .bl _, _, _, P => exact P.elim
  | .int _, _, _, P => exact P.elim
  | .str _, _, _, P => exact P.elim
  | .tup _, _, _, P => exact P.elim
  | .lst _, _, _, P => exact P.elim
  | .fz _, _, _, P => exact P.elim
  | .ftp _, _, _, P => exact P.elim
  | .exn _ _ _ _, _, _, P => exact P.elim
  | .xob _ _ _, _, _, P => exact P.elim
theorem ok_reverse {K : PySem.W.Frag} {mg : MG} : MtOk K mg E rReverse mReverse := by
  intro F G m st H x v ws vs Q S r rs P
  match x, ws, rs, P with
  | .cell n, [], .nil, P =>
    unfold mReverse at P
    dsimp only at P
    split at P
    · rename_i xs q1
      obtain ⟨a, us, rfl, hm, h1, h2, h3⟩ := cell_at S r q1
      exact ⟨a, us, rfl, rfl, h1, P.ret (h3 _ _ G m (Ext.refl G m) h2.reverse) .non⟩
    · exact P.elim
  | .cell n, _ :: _, _, P => exact P.elim
  | .non, _, _, P => exact P.elim
  | .bl _, _, _, P => exact P.elim
  | .int _, _, _, P => exact P.elim
  | .str _, _, _, P => exact P.elim
  | .tup _, _, _, P => exact P.elim
  | .lst _, _, _, P => exact P.elim
  | .fz _, _, _, P => exact P.elim
  | .ftp _, _, _, P => exact P.elim
  | .exn _ _ _ _, _, _, P => exact P.elim
  | .xob _ _ _, _, _, P => exact P.elim
theorem je_extend (ho : JE X E o dO) (ha : JA X E (e :: es) ds) (hbase : attributeBase o "extend" X.env (eval o X.env) = eval o X.env := by rfl)
    (hfew : ((backTo cpos (starEach (e :: es) X.env)).all (fun x => !x.1) && (backToKw cpos (keywordEach [] X.env)).all (fun x => x.1.isSome) && decide ((e :: es).length + ([] : List Keyword).length + (if ([] : List Keyword).isEmpty then 0 else 1) < 30)) = true := by rfl)
    (hline : (apos.endLine == cpos.line) = true := by rfl) (hs : starEach (e :: es) X.env = (false, eval e X.env) :: starEach es X.env := by rfl) (hplain : (backTo cpos (starEach es X.env)).any (·.1) = false := by rfl) :
    JE X E (.Call (.Attribute o "extend" apos) (e :: es) [] cpos) (dBM tyL mExtend dO ds) := je_bm PySem.F.plainAttrs_list PySem.F.slot_list_extend PySem.F.type_list_extend mt_extend tyL_ok ok_extend ho ha hbase hfew hline hs hplain
theorem je_reverse (ho : JE X E o dO) (hbase : attributeBase o "reverse" X.env (eval o X.env) = eval o X.env := by rfl) (hline : (apos.endLine == cpos.line) = true := by rfl) :
    JE X E (.Call (.Attribute o "reverse" apos) [] [] cpos) (dBM0 tyL mReverse dO) := je_bm0 PySem.F.plainAttrs_list PySem.F.slot_list_reverse PySem.F.type_list_reverse mt_reverse tyL_ok ok_reverse ho hbase hline
theorem jg_lst {k : Nat} {gs : Ts} {n : Nat} {sl : List Nat} (hc : X.calm = true) (h : JGs X es sl gs) (hl : GsLen gs n) (hn : (assignEach es X.env).length = n := by rfl)
    (hst : (assignEach es X.env).findIdx? (·.1) = none := by rfl) : JG X (.Tuple es k pos) sl (gLi gs) := by
  refine weakG (pg_unl hc h hn hst) ?_
  rintro v σ H Q ⟨F, G, m, env, st, w, S, R, r, P⟩
  unfold gLi at P
  split at P
  · rename_i ws q
    obtain ⟨a, vs, rfl, h1, h2⟩ := lview_at S r q
    have hlen : ws.length = n := by
      cases q2 : gs ws env st with
      | stuck => rw [q2] at P; exact P.elim
      | exc x st => rw [q2] at P; exact P.elim
      | ok env2 st2 => exact hl _ _ _ _ _ q2
    exact ⟨a, vs, rfl, h1, by rw [← h2.length]; exact hlen, F, G, m, env, st, ws, S, R, h2, P⟩
  · exact P.elim
end
end Sh


set_option maxRecDepth 100000
set_option maxHeartbeats 4000000
/-! {k: v for ..}, the keys tuples -/
namespace L2
open PySem PySem.Spec PyProof.Rows
/-- y: z goes into the dict at D -/
def Put1 (P : Program) (w : World) (D : Addr) (y z : V) (H : Hp) (Nx : Hp → Prop) : Prop := ∃ xs k a, y = .ref a ∧ H D = some (DN P w D xs) ∧ DKs H xs ∧ NKH H k (.ref a) ∧ k.depth ≤ 8 ∧ xs.length < sizeLine ∧ Nx (upd H D (DN P w D (putN xs k a z)))
/-- one turn of such a comprehension -/
def TurnN (P : Program) (w : World) (g : TG) (tt : TT) (tk tv : TE) (vs : List Nat) (σ : St) (D : Addr) (x : V) (H : Hp) (Nx : Hp → Prop) : Prop :=
  g x (wipe σ vs) H fun a Ha => wipe a vs = wipe σ vs ∧ tt a Ha fun b Hb => if b = true then tk a Hb fun y Hk => tv a Hk fun z Hv => Put1 P w D y z Hv Nx else Nx Hb
def tDcN (P : Program) (w : World) (wi : TI) (g : TG) (tt : TT) (tk tv : TE) (vs : List Nat) : TE := fun σ H Q => wi σ H fun J H1 => ∀ D, H1 D = none → ∃ T : Nat → Nat → Hp → Prop, (∃ m, T 0 m (upd H1 D (DN P w D []))) ∧
  ∀ i m Hi, T i m Hi → (J.stop i Hi ∧ Q (.ref D) Hi) ∨ (J.go i Hi ∧ ∃ Nx : Hp → Prop, (∀ Hn, Nx Hn → ∃ m', m' < m ∧ T (i + 1) m' Hn) ∧ ∀ x Hx, J.yld i Hi x Hx → TurnN P w g tt tk tv vs σ D x Hx Nx)
/-- in the block's own context, whatever it is -/
abbrev InBlk (X : Cx) (scope : Scope) (R : Cx → Prop) : Prop := ∀ (s : Shared) (H : Hp) (C : Addr) (cl : List (Str × Addr)) (fp : List Addr), R (X.blk s H scope (compEnvC scope cl C X.env) fp)
section
variable {X : Cx} {pins : List (Addr × Obj)} {σ : St} {H : Hp} {s : Shared}
theorem put1_run {E : Value → Shared → Prop} {Q : Unit → Shared → Prop} {D : Addr} {y z : V} {u r : Value} {Nx : Hp → Prop} (hu : X.A.units + 64 < cLine) (I : Inv X pins σ H s) (ry : RelV y u) (rz : RelV z r) (h : Put1 X.prog X.w D y z H Nx)
    (hq : ∀ Hn s', Inv X pins σ Hn s' → Nx Hn → Q () s') : wpAny (model X.prog X.w) X.A (dictSet D u r) Q E s := by
  obtain ⟨xs, k, a, rfl, hd, hk, n, l, hl, nx⟩ := h
  cases ry
  obtain ⟨us, rel, hm, zl, sm⟩ := dn_of I hd hk
  refine wpAny_dictSet_heap (knd := nestedKind X.prog X.w) (show X.A.units + 8 < cLine by omega) ⟨NKH.is I n rfl, l⟩ hm (fun h' hm' sb => ?_) (by rw [← rel.length]; exact zl)
  have hm2 := hm'
  obtain ⟨ob, _, _, e, _⟩ := hm2
  exact hq _ _ (I.write (h' := h') (t' := s.toks + (nestedKind X.prog X.w).draws k) (x := D) (e := D) (o := DN X.prog X.w D (putN xs k a z)) (by rw [hd]; exact True.intro) (.inl rfl) (fun b ob nb e => (sb.2 b nb).trans e) ⟨ob, e⟩ (dn_ok (res_put rel rz) (Nat.le_trans putN_len hl) sm hm')) nx
/-- the comprehension, up to what its dict is for -/
theorem dcN_core {Q : VK} {kx vx tg iter : Expr} {ifs : List Expr} {scope : Scope} {own : List (Str × Nat)} {pos p2 : Pos} {wi : TI} {g : TG} {tt : TT} {tk tv : TE} {use : Option (Value → Sem Unit)} {Qf : Value → Shared → Prop}
    (hu : X.A.units + 64 < cLine) (hc : X.calm = true) (hN : X.N.Nodup) (I : Inv X pins σ H s) (hi : PI X tg iter wi) (ok : BlkOk X.N X.env.scope scope own)
    (hg : InBlk X scope fun B => PG B tg g) (ht : InBlk X scope fun B => PTs B ifs tt) (hk : InBlk X scope fun B => PE B kx tk) (hv : InBlk X scope fun B => PE B vx tv)
    (hs : ∀ x, foldedSetIterable iter X.env x = pure x) (h : tDcN X.prog X.w wi g tt tk tv (own.map (·.2)) σ H Q)
    (fin : ∀ D C z m Hz, Inv X pins σ Hz z → Q (.ref D) Hz → z.heap.Ns C m → FpOk X pins Hz C → compPost (model X.prog X.w) X.A X.xe use Qf (.ref D) C (.ok .next) z) :
    wpAny (model X.prog X.w) X.A (comprehension (.DictComp kx vx [⟨tg, iter, ifs, 0⟩] scope pos) scope X.env p2 newDict false (eval iter X.env) use) Qf X.xe s := by
  have free : ∀ y ∈ scope.names, y.2 = .free → ∃ c, X.env.cells.lookup y.1 = some c := fun y hy e => (ok.free y hy e).elim (fun q => I.ok.has _ (.inl q)) fun q => I.ok.has _ (.inr q)
  refine wpAny_comprehension_free (use := use) rfl hs (closure_ok free) ok.kind (fun y hy e => by rw [ok.uniq y hy, e]) ?_
  refine thn (hi.run pins s σ H _ I h) fun xv sa ha => thn ha fun itv sb hb => ?_
  obtain ⟨it, fp, tn, J, Hb, e, Ib, T, tb, fb, q⟩ := hb
  subst e
  refine wpAny_newObj_type (newEnv_comp ?_)
  -- the dict
  obtain ⟨D, hD⟩ : ∃ D, sb.heap.objs.size = D := ⟨_, rfl⟩
  rw [hD]
  have none_D : Hb D = none := Ib.hok.fresh (Nat.le_of_eq hD)
  obtain ⟨Tn, ⟨m0, st0⟩, turn⟩ := q D none_D
  have sm : (D == sysModules) = false := beq_eq_false_iff_ne.mpr (by rw [← hD]; exact Ne.symm (Nat.ne_of_lt Ib.big))
  obtain ⟨sc, hsc⟩ : ∃ sc : Shared, sc = { sb with heap := sb.heap.push { cls := .type "dict", data := .dict #[] } } := ⟨_, rfl⟩
  have hsc' : sc.heap = sb.heap.push { cls := .type "dict", data := .dict #[] } := by rw [hsc]
  rw [← hsc]
  have Ic : Inv X pins σ (upd Hb D (DN X.prog X.w D [])) sc := by
    rw [hsc]
    exact Ib.laid (t' := sb.toks) (fun b o e => Heap.get?_push_of_some _ e) (Nat.le_of_eq hD) (dn_ok (X := X) (us := []) .nil (Nat.zero_le _) sm (hD ▸ Heap.DictOfH.new sb.heap))
  have below : ∀ b ∈ fp, b < sb.heap.objs.size := fun b hb => (T.obj _ _ tb b hb).elim fun _ z => Heap.lt_size z.1
  have fc : ∀ b ∈ fp, FpOk X pins (upd Hb D (DN X.prog X.w D [])) b ∧ b < sc.heap.objs.size := fun b hb => by
    have lt := below b hb
    exact ⟨⟨by rw [upd_ne (hD ▸ Nat.ne_of_lt lt)]; exact (fb b hb).1, (fb b hb).2⟩, by rw [hsc', Heap.size_push]; exact Nat.lt_succ_of_lt lt⟩
  have tc : tn 0 sc.heap := T.keep _ _ _ tb fun b _ o e => by rw [hsc']; exact Heap.get?_push_of_some _ e
  have I0 := block_start Ic ok hN fc
  have Bg := hg sc (upd Hb D (DN X.prog X.w D [])) sc.heap.objs.size (cellsFrom (sc.heap.objs.size + 1) scope.names (cloFrom X.env.cells scope.names [])) fp
  have Bt := ht sc (upd Hb D (DN X.prog X.w D [])) sc.heap.objs.size (cellsFrom (sc.heap.objs.size + 1) scope.names (cloFrom X.env.cells scope.names [])) fp
  have Bk := hk sc (upd Hb D (DN X.prog X.w D [])) sc.heap.objs.size (cellsFrom (sc.heap.objs.size + 1) scope.names (cloFrom X.env.cells scope.names [])) fp
  have Bv := hv sc (upd Hb D (DN X.prog X.w D [])) sc.heap.objs.size (cellsFrom (sc.heap.objs.size + 1) scope.names (cloFrom X.env.cells scope.names [])) fp
  have clean : ∀ b ∈ fp, (upd Hb D (DN X.prog X.w D [])) b = none := fun b hb => (fc b hb).1.1
  show codeAny _ _ (.compStart (.DictComp kx vx [⟨tg, iter, ifs, 0⟩] scope pos) 0 (.ref it) (.ref D) (compEnvC scope (cellsFrom (sc.heap.objs.size + 1) scope.names (cloFrom X.env.cells scope.names [])) sc.heap.objs.size X.env)) (compPost (model X.prog X.w) X.A X.xe use Qf (.ref D) sc.heap.objs.size)
    { sc with heap := pushCells (sc.heap.push { cls := .type "dict", data := .dict #[] }) scope.names }
  obtain ⟨be, hbe⟩ : ∃ be : Env, be = compEnvC scope (cellsFrom (sc.heap.objs.size + 1) scope.names (cloFrom X.env.cells scope.names [])) sc.heap.objs.size X.env := ⟨_, rfl⟩
  rw [← hbe] at I0 Bg Bt Bk Bv ⊢
  have beL : be.locals = sc.heap.objs.size := by rw [hbe]; rfl
  obtain ⟨H0, hH0⟩ : ∃ H0 : Hp, H0 = upd Hb D (DN X.prog X.w D []) := ⟨_, rfl⟩
  rw [← hH0] at Ic I0 Bg Bt Bk Bv st0 clean fc
  obtain ⟨s0, hs0⟩ : ∃ s0 : Shared, s0 = { sc with heap := pushCells (sc.heap.push { cls := .type "dict", data := .dict #[] }) scope.names } := ⟨_, rfl⟩
  have t0 : tn 0 s0.heap := T.keep _ _ _ tc fun b _ o e => by rw [hs0]; exact pushCells_keeps _ _ _ _ (Heap.get?_push_of_some _ e)
  rw [← hs0] at I0 ⊢
  have foot : ∀ {a : St} {Ha : Hp} {z : Shared}, Inv (X.blk sc H0 scope be fp) [] a Ha z → (∀ b ∈ fp, Ha b = none) → ∀ b ∈ fp, FpOk (X.blk sc H0 scope be fp) [] Ha b := fun {a Ha z} Iz hn b hb =>
    ⟨hn b hb, (Iz.ok.exf b hb).1, Iz.ok.exfs b hb, .inl hb, fun x c e => (Iz.ok.exf b hb).2 x c e, fun p hp => absurd (show p ∈ ([] : List (Addr × Obj)) ++ [] from hp) (by simp)⟩
  have loop : codeAny (model X.prog X.w) X.A (.compLoop (.DictComp kx vx [⟨tg, iter, ifs, 0⟩] scope pos) 0 (.ref it) (.ref D) be) (compPost (model X.prog X.w) X.A X.xe use Qf (.ref D) sc.heap.objs.size) s0 := by
    refine compLoop_anyD (fun n z => ∃ i Hz, Inv (X.blk sc H0 scope be fp) [] (wipe σ (own.map (·.2))) Hz z ∧ tn i z.heap ∧ (∀ b ∈ fp, Hz b = none) ∧ Tn i n Hz) ?_ m0 ⟨0, H0, I0, t0, clean, st0⟩
    rintro n z ⟨i, Hz, Iz, tz, nz, stz⟩
    rcases turn i n Hz stz with ⟨stop, last⟩ | ⟨go, Nx, next, step⟩
    · refine thnF (T.done (X.blk sc H0 scope be fp) rfl rfl rfl hc i [] z _ Hz (fun _ _ => False) Iz (foot Iz nz) tz stop) fun r y ⟨hr, Iy⟩ => ?_
      subst hr
      have Ix : Inv X pins σ Hz y := Ic.call' (ch := fp) Iy.os Iy.base Iy.hok Iy.bare fun b hb => by
        obtain ⟨⟨_, f1, f2, f3, f4, f5⟩, _⟩ := fc b hb
        exact ⟨f3, f1, f4, f5⟩
      have nC : Hz sc.heap.objs.size = none := beL ▸ (show Hz be.locals = none from Iy.free)
      obtain ⟨m, hn, _⟩ := Iy.loc
      exact fin D _ y m Hz Ix last (beL ▸ (show y.heap.Ns be.locals m from hn)) (Ic.fpOk (Nat.le_refl _) nC)
    · refine thnF (T.item (X.blk sc H0 scope be fp) rfl rfl rfl hc i [] z _ Hz (fun _ _ => False) Iz (foot Iz nz) tz go) fun r y ⟨u, hr, hy⟩ => ?_
      subst hr
      refine thnF hy fun _ x ⟨xv, Hx, Ix, rx, yx, tx, nx⟩ => ?_
      have Ip := Ix.pinned (foot Ix nx) (T.obj _ _ tx)
      have stp := step xv Hx yx
      refine thnF (Bg.run _ x _ Hx xv u _ Ip rx stp) fun _ y1 ⟨σ1, H1, I1, w1, q1⟩ => ?_
      refine thnF (Bt.run _ y1 σ1 H1 _ I1 q1) fun b y2 ⟨H2, I2, q2⟩ => ?_
      have back : ∀ {y' : Shared} {H' : Hp}, Inv (X.blk sc H0 scope be fp) ([] ++ pinsAt fp x.heap) σ1 H' y' → Nx H' → ∃ m, m < n ∧ ∃ i Hz, Inv (X.blk sc H0 scope be fp) [] (wipe σ (own.map (·.2))) Hz y' ∧ tn i y'.heap ∧ (∀ b ∈ fp, Hz b = none) ∧ Tn i m Hz := fun {y' H'} I' hx => by
        obtain ⟨m', lt, st'⟩ := next H' hx
        have pin : ∀ b ∈ fp, ∀ o, x.heap.get? b = some o → y'.heap.get? b = some o ∧ H' b = none := fun b hb o e => by
          have z := I'.pin (b, o) (List.mem_append_right _ (List.mem_append_right _ (mem_pinsAt hb e)))
          exact ⟨z.1, z.2.1⟩
        have len : (wipe σ (own.map (·.2))).length = σ1.length := by rw [← w1, wipe_length]
        refine ⟨m', lt, i + 1, H', (I'.unpinned (pins := [])).weak len (fun j v e => (wipe_some (w1.symm ▸ e)).1), ?_, fun b hb => ?_, st'⟩
        · exact T.keep _ _ _ tx fun b hb o e => (pin b hb o e).1
        · exact (T.obj _ _ tx b hb).elim fun o z => (pin b hb o z.1).2
      cases b with
      | false => exact back I2 (by simpa using q2)
      | true =>
        have q2 := (if_pos rfl : (if true = true then _ else _) = _) ▸ q2
        refine thnF (Bk.run _ y2 σ1 H2 _ I2 q2) fun kv y3 ⟨yk, H3, I3, r3, q3⟩ => thnF (Bv.run _ y3 σ1 H3 _ I3 q3) fun vv y4 ⟨yv, H4, I4, r4, q4⟩ => ?_
        exact put1_run (X := X.blk sc H0 scope be fp) hu I4 r3 r4 q4 fun Hn y5 I5 nx5 => back I5 nx5
  exact codeAny_compStart_dict loop (T.self X.A 0 _ _ _ t0 loop)
end
end L2


set_option maxRecDepth 100000
set_option maxHeartbeats 4000000
/-! .. as a value, and y = {k: v for ..} -/
namespace L2
open PySem PySem.Spec PyProof.Rows
section
variable {X : Cx}
theorem pe_dcN {kx vx tg iter : Expr} {ifs : List Expr} {scope : Scope} {own : List (Str × Nat)} {pos : Pos} {wi : TI} {g : TG} {tt : TT} {tk tv : TE}
    (hu : X.A.units + 64 < cLine) (hc : X.calm = true) (hN : X.N.Nodup) (hi : PI X tg iter wi) (ok : BlkOk X.N X.env.scope scope own)
    (hg : InBlk X scope fun B => PG B tg g) (ht : InBlk X scope fun B => PTs B ifs tt) (hk : InBlk X scope fun B => PE B kx tk) (hv : InBlk X scope fun B => PE B vx tv)
    (hs : ∀ x, foldedSetIterable iter X.env x = pure x := by intro _; rfl) : PE X (.DictComp kx vx [⟨tg, iter, ifs, 0⟩] scope pos) (tDcN X.prog X.w wi g tt tk tv (own.map (·.2))) := ⟨fun pins s σ H Q I h => by
  rw [arm_eval_DictComp]
  exact dcN_core hu hc hN I hi ok hg ht hk hv hs h fun D C z m Hz Iz q hn ⟨f0, f1, f2, f3, f4, f5⟩ => ⟨m, hn, fun h2 sb => ⟨.ref D, Hz, Iz.turned (t' := z.toks) (fun b o ne e => (sb.2 b ne).trans e) f0 f1 f3 f4 f5, rfl, q⟩⟩⟩
theorem ps_setDcN {i : Nat} {y : Str} {py pos spos : Pos} {kx vx tg iter : Expr} {ifs : List Expr} {scope : Scope} {own : List (Str × Nat)} {wi : TI} {g : TG} {tt : TT} {tk tv : TE}
    (hu : X.A.units + 64 < cLine) (hc : X.calm = true) (hN : X.N.Nodup) (hy : X.N[i]? = some y) (hyl : X.env.scope.names.lookup y = some .local)
    (hsw : swapsWith (.DictComp kx vx [⟨tg, iter, ifs, 0⟩] scope pos) (some (.Name y py)) spos.line X.env = pure true) (hi : PI X tg iter wi) (ok : BlkOk X.N X.env.scope scope own)
    (hg : InBlk X scope fun B => PG B tg g) (ht : InBlk X scope fun B => PTs B ifs tt) (hk : InBlk X scope fun B => PE B kx tk) (hv : InBlk X scope fun B => PE B vx tv)
    (hs : ∀ x, foldedSetIterable iter X.env x = pure x := by intro _; rfl) :
    PS X (.Assign [.Name y py] (.DictComp kx vx [⟨tg, iter, ifs, 0⟩] scope pos) spos) (tAsg (tDcN X.prog X.w wi g tt tk tv (own.map (·.2))) (gName i)) := ⟨fun pins s σ H E I h => by
  rw [exec_Assign_Name_used _ _ _ _ hsw]
  refine wpAny_bind (wpAny_standAt (wpAny_bind ?_))
  show wpAny _ X.A (do let _ ← comprehension (.DictComp kx vx [⟨tg, iter, ifs, 0⟩] scope pos) scope X.env (firstIterPos [⟨tg, iter, ifs, 0⟩] pos) newDict false (eval iter X.env) (some (assign (.Name y py) X.env))) _ _ s
  have h : tDcN X.prog X.w wi g tt tk tv (own.map (·.2)) σ H (fun x Hx => gName i x σ Hx E.nx) := h
  refine wpAny_bind (thn (dcN_core (Qf := fun _ z => SP X pins E .next z) hu hc hN I hi ok hg ht hk hv hs h ?_) fun _ _ q => wpAny_pure (wpAny_pure q))
  intro D C z m Hz Iz q hn fp
  refine wpAny_assign_Name (store_ok2 (v := V.ref D) Iz hN hy (.inl hyl) rfl (fun z2 I2 ⟨a, sb, ha⟩ => ?_) (.inr hyl))
  obtain ⟨f0, f1, f2, f3, f4, f5⟩ := fp
  have ne : C ≠ a := ha.elim (fun e => e ▸ f1) fun e z => f4 y a e z.symm
  exact ⟨m, hn.sameBut sb ne, fun h3 sb3 => ⟨_, Hz, I2.turned (t' := z2.toks) (fun b o nb e => (sb3.2 b nb).trans e) f0 f1 f3 f4 f5, q⟩⟩⟩
theorem sw_trueD {kx vx : Expr} {gs : List Comprehension} {scope : Scope} {pos py : Pos} {y : Str} {l : Nat} {env : Env} (hk : env.scope.kind = .function) (hy : env.scope.names.lookup y = some .local) (hl : (py.line == pos.line) = true)
    (ha : (scope.names.any fun (n, k) => n == y && (k == .local || k == .cell)) = false) : swapsWith (.DictComp kx vx gs scope pos) (some (.Name y py)) l env = pure true := by
  have e1 : env.blockKind = .function := by unfold Env.blockKind; rw [hk]; rfl
  have e2 : env.kindOf y = some .local := hy
  unfold swapsWith
  simp only [e1, e2, ha, hl, Expr.pos]
  rfl
end
end L2
namespace Sh
open PySem L2 Evl
variable [Wd]
open Classical in
noncomputable def dcGo (ok : Store → Prop) (g : T) (tt : Env → M Bool) (tk tv : Env → M W) (env : Env) (n : Nat) : List W → Store → Out W
  | [], st => if ok st then .ok (.cell n) st else .stuck
  | w :: ws, st => if ok st then (match g w env st with
    | .stuck => .stuck
    | .exc _ _ => .stuck
    | .ok e2 st => (tt e2 st).nox.bind fun b st => if b = true then ((tk e2 st).nox.bind fun y st => (tv e2 st).nox.bind fun z st => match dcell st n, nkT y with
      | some kvs, some k => if kvs.length < sizeLine then dcGo ok g tt tk tv env n ws (st.set n (.dN (putW kvs k y z))) else .stuck
      | _, _ => .stuck) else dcGo ok g tt tk tv env n ws st) else .stuck
noncomputable def dDcN (it : Env → M It') (g : T) (tt : Env → M Bool) (tk tv : Env → M W) (vs : List Nat) : Env → M W := fun env st => (it env st).bind fun i st => dcGo i.ok g tt tk tv (wipeW env vs) st.length i.xs (st ++ [.dN []])
theorem Post.nox' {K : PySem.W.Frag} {mg : MG} {E E' : XK} {F G : Hp} {m : List Addr} {α β γ δ : Type} {R : Rel α β} {R' : Rel γ δ} {o : Out α} {f : α → M γ} {Q : δ → Hp → Prop} {Q' : β → Hp → Prop} (h : Post R' K mg E F G m (o.nox.bind f) Q)
    (hq : ∀ a st G' m' H' b, Ext G m G' m' → Sim K mg F G' m' st H' → R K G' m' a b → Post R' K mg E F G' m' (f a st) Q → Q' b H') : Post R K mg E' F G m o Q' := by
  cases o with
  | stuck => exact h.elim
  | exc x st => exact h.elim
  | ok a st => exact fun G2 m2 b H2 e S r => hq a st G2 m2 H2 b e S r (Post.mono e h)
section
variable {X : Cx} {E : XK} {pos : Pos}
theorem dcN_read {K : PySem.W.Frag} {mg : MG} {di : Env → M It'} {g : T} {tt : Env → M Bool} {tk tv : Env → M W} {vs sl : List Nat} (hsl : ∀ i ∈ sl, i ∈ vs) {σ : L2.St} {H : Hp} {Q : VK} (h : tE K mg E (dDcN di g tt tk tv vs) σ H Q) :
    tDcN Wd.P Wd.w (tIt K mg E di) (tG K mg sl g) (tT K mg E0 tt) (tE K mg E0 tk) (tE K mg E0 tv) vs σ H Q := by
  obtain ⟨F, G, m, env, st, S, R, P⟩ := h
  refine ⟨F, G, m, env, st, S, R, (Post.bind (R := RI mg) P).imp fun J H1 ⟨G1, m1, i1, st1, e1, S1, w1, P1⟩ D hD => ?_⟩
  have gD := fresh_back S1.ex hD
  have S2 := S1.newC (c := .dN []) (p := D) (o := DN Wd.P Wd.w D []) hD ⟨gD, [], upd_same, .nil⟩
  have c1 : Ext G1 m1 G1 (m1 ++ [D]) := Ext.cell
  have hn : (m1 ++ [D])[st1.length]? = some D := by rw [← S1.len, List.getElem?_append_right (Nat.le_refl _), Nat.sub_self]; rfl
  refine ⟨fun i k H' => k = i1.xs.length - i ∧ i ≤ i1.xs.length ∧ ∃ G' m' st', Ext G1 (m1 ++ [D]) G' m' ∧ Sim K mg F G' m' st' H' ∧ Post RW K mg E F G' m' (dcGo i1.ok g tt tk tv (wipeW env vs) st1.length (i1.xs.drop i) st') Q,
    ⟨_, rfl, Nat.zero_le _, G1, _, _, Ext.refl _ _, S2, P1.mono c1⟩, ?_⟩
  rintro i k H' ⟨rfl, hi, G', m', st', e', S', P'⟩
  have e0 := c1.trans e'
  by_cases hlt : i < i1.xs.length
  · rw [List.drop_eq_getElem_cons hlt, dcGo] at P'
    split at P'
    · rename_i hok
      refine .inr ⟨w1.go i H' _ G' m' st' e0 S' hok hlt, fun H2 => ∃ G2 m2 st2, Ext G1 (m1 ++ [D]) G2 m2 ∧ Sim K mg F G2 m2 st2 H2 ∧ Post RW K mg E F G2 m2 (dcGo i1.ok g tt tk tv (wipeW env vs) st1.length (i1.xs.drop (i + 1)) st2) Q,
        fun H2 h2 => ⟨_, Nat.sub_lt_sub_left hlt (Nat.lt_succ_self i), rfl, hlt, h2⟩, fun x H2 hy => ?_⟩
      obtain ⟨w, G2, hw, eG, S2, r2⟩ := w1.yld i H' x H2 _ G' m' st' e0 S' hok hlt hy
      rw [List.getElem?_eq_getElem hlt] at hw
      cases hw
      have x2 : Ext G' m' G2 m' := ⟨eG, fun _ _ h => h⟩
      refine ⟨_, G2, m', wipeW env vs, st', _, S2, (R.mono (e1.trans (e0.trans x2))).wipe vs, r2, ?_⟩
      have P' := P'.mono x2
      cases hg2 : g i1.xs[i] (wipeW env vs) st' with
      | stuck => simp only [hg2] at P'; exact P'.elim
      | exc x st => simp only [hg2] at P'; exact P'.elim
      | ok env2 st2 =>
        simp only [hg2] at P'
        intro G3 m3 σ3 H3 e3 S3 R3 o3
        have ee := (e'.trans x2).trans e3
        refine ⟨(o3 vs hsl).trans (wipe_wipe σ vs), _, G3, m3, env2, st2, S3, R3, ?_⟩
        refine Post.nox' (R := RB) (P'.mono e3) fun b st4 G4 m4 H4 b' e4 S4 hb P4 => ?_
        cases hb
        cases b with
        | false => exact ⟨G4, m4, st4, ee.trans e4, S4, P4⟩
        | true =>
          refine ⟨F, G4, m4, env2, st4, S4, R3.mono e4, ?_⟩
          rw [if_pos rfl] at P4
          refine Post.nox' (R := RW) P4 fun y st5 G5 m5 H5 v5 e5 S5 r5 P5 => ?_
          refine ⟨F, G5, m5, env2, st5, S5, (R3.mono e4).mono e5, Post.nox' (R := RW) P5 fun z st6 G6 m6 H6 v6 e6 S6 r6 P6 => ?_⟩
          split at P6
          · rename_i kvs k q1 q2
            split at P6
            · rename_i hl
              have em := ((ee.trans e4).trans e5).trans e6
              obtain ⟨a, ns, ha, hm, hd, rs⟩ := dcell_at S6 (RW.cell (em.mm _ _ hn)) q1
              cases ha
              obtain ⟨n1, n2, ka, rfl, n3⟩ := nkT_at S6.ex (RW.mono e6 r5) q2
              exact ⟨ns, k, ka, rfl, hd, rns_keys S6.ex rs, n3, n2, by rw [← rs.length]; exact hl, G6, m6, _, em, Sim.dset S6 q1 hm (rns_put n1 n2 (RW.mono e6 r5) r6 rs), P6⟩
            · exact P6.elim
          · exact P6.elim
    · exact P'.elim
  · rw [List.drop_eq_nil_of_le (by omega), dcGo] at P'
    split at P'
    · rename_i hok
      exact .inl ⟨w1.stop i H' _ G' m' st' e0 S' hok (by omega), P'.ret S' (.cell (e'.mm _ _ hn))⟩
    · exact P'.elim
end
end Sh


set_option maxRecDepth 100000
set_option maxHeartbeats 4000000
namespace Sh
open PySem L2 Evl
variable [Wd]
section
variable {X : Cx} {E : XK} {pos : Pos} {kx vx tg iter : Expr} {ifs : List Expr} {scope : Scope} {own : List (Str × Nat)} {di : Env → M It'} {g : T} {sl : List Nat} {tt : Env → M Bool} {tk tv : Env → M W}
theorem je_dcN (hw : X.prog = Wd.P ∧ X.w = Wd.w) (hu : X.A.units + 64 < cLine) (hc : X.calm = true) (hN : X.N.Nodup) (hi : JI X E tg iter di) (ok : BlkOk X.N X.env.scope scope own)
    (hg : InBlk X scope fun B => JG B tg sl g) (ht : InBlk X scope fun B => JTs B E0 ifs tt) (hk : InBlk X scope fun B => JE B E0 kx tk) (hv : InBlk X scope fun B => JE B E0 vx tv) (hsl : ∀ i ∈ sl, i ∈ own.map (·.2) := by decide)
    (hs : ∀ x, foldedSetIterable iter X.env x = pure x := by intro _; rfl) : JE X E (.DictComp kx vx [⟨tg, iter, ifs, 0⟩] scope pos) (dDcN di g tt tk tv (own.map (·.2))) :=
  weakE (pe_dcN hu hc hN hi ok hg ht hk hv hs) fun σ H Q h => by rw [hw.1, hw.2]; exact dcN_read hsl h
theorem js_setDcN {i : Nat} {y : Str} {py spos : Pos} (hw : X.prog = Wd.P ∧ X.w = Wd.w) (hu : X.A.units + 64 < cLine) (hc : X.calm = true) (hN : X.N.Nodup) (hy : X.N[i]? = some y) (hyl : X.env.scope.names.lookup y = some .local)
    (hsw : swapsWith (.DictComp kx vx [⟨tg, iter, ifs, 0⟩] scope pos) (some (.Name y py)) spos.line X.env = pure true) (hi : JI X E tg iter di) (ok : BlkOk X.N X.env.scope scope own)
    (hg : InBlk X scope fun B => JG B tg sl g) (ht : InBlk X scope fun B => JTs B E0 ifs tt) (hk : InBlk X scope fun B => JE B E0 kx tk) (hv : InBlk X scope fun B => JE B E0 vx tv) (hsl : ∀ i ∈ sl, i ∈ own.map (·.2) := by decide)
    (hs : ∀ x, foldedSetIterable iter X.env x = pure x := by intro _; rfl) : JS X E (.Assign [.Name y py] (.DictComp kx vx [⟨tg, iter, ifs, 0⟩] scope pos) spos) (sSet i (dDcN di g tt tk tv (own.map (·.2)))) := by
  refine weakS (ps_setDcN (g := tG X.K X.mg sl g) (tt := tT X.K X.mg E0 tt) (tk := tE X.K X.mg E0 tk) (tv := tE X.K X.mg E0 tv) hu hc hN hy hyl hsw hi ok hg ht hk hv hs) ?_
  rintro D σ H ⟨F, G, m, env, st, S, R, P⟩
  rw [hw.1, hw.2]
  exact dcN_read (E := E) hsl ⟨F, G, m, env, st, S, R, (PostS.bindS (R := RW) P).imp fun v H1 ⟨G1, m1, w, st1, e1, S1, r1, P1⟩ => P1 G1 m1 _ H1 (Ext.refl G1 m1) S1 ((R.mono e1).set r1 i)⟩
end
end Sh


set_option maxRecDepth 100000
set_option maxHeartbeats 4000000
/-! defs that are called while no repr is under way -/
namespace Sh
open PySem L2 Evl
variable [Wd]
def HasG (P : Program) (w : World) (K : PySem.W.Frag) (mg : MG) (base : Heap) (k : Nat) (x : Str) (ps : List Str) (m : List W → M W) : Prop :=
  ∃ f fd, mg x = some (.ref f) ∧ PySem.W.keepIn K (.ref f) = true ∧ Binds K fd ps [] ∧ ∀ A, Room k A → A.guards = some [] → RunAt A P w K mg base f fd ps (spM K mg m)
theorem hasG_mk {P : Program} {w : World} {K : PySem.W.Frag} {mg : MG} {base : Heap} {x : Str} {st : Stmt} {f : Addr} {fd : FuncData} {N ps : List Str} {k : Nat} {s : S} (F : Fun K x x st f fd) (g : mg x = some (.ref f)) (b : Binds K fd ps []) (hS : FnScope N ps (defScope st)) (hN : ps.length ≤ N.length)
    (hb : ∀ (cdv : Value) (A : Around) (outer : List PySem.Env) (sh : Shared) (H : Hp), A.guards = some [] → Room k (A.deeper (PyProof.Rows.envOfC x (defScope st) sh.heap.objs.size f cdv)) → JSs (cxOf CX0 P w K mg base N x (defScope st) f cdv A outer sh H E0).nox E0 (defBody st) s) :
    HasG P w K mg base (k + 1) x ps (dBody ps.length N.length s) := ⟨f, fd, g, F.kp, b, fun A hr gd => fn_at F hS hN hr fun cdv outer sh H r => hb cdv A outer sh H gd r⟩
section
variable {X : Cx} {E : XK} {e : Expr} {es : List Expr} {ds : Env → M (List W)} {p pos : Pos} {k j : Nat} {ps : List Str} {x : Str} {m : List W → M W}
theorem runG {pins : List (Addr × Obj)} {σ : L2.St} {H : Hp} {s : Shared} {Q : VK} {us : List Value} {vs : List V} {f : Addr} {fd : FuncData} (F : RunAt X.A X.prog X.w X.K X.mg X.base f fd ps (spM X.K X.mg m)) (hl : vs.length = ps.length) (hb : Binds X.K fd ps [])
    (I : Inv X pins σ H s) (r : Vals vs us) (h : spM X.K X.mg m vs H Q E0) : wpAny (model X.prog X.w) X.A (call (.ref f) us) (EP X pins σ Q) X.xe s := by
  have bind := hb s us I.kIn (by rw [List.append_nil, ← r.length]; exact hl)
  rw [List.append_nil] at bind
  refine wpAny_call (codeAny_mono (F X.stack s H ⟨us, []⟩ us vs Q I.env0 bind r h) ?_)
  intro r2 s2 q
  cases r2 with
  | error err => exact pass0 pins σ H s err s2 I q
  | ok fl =>
    cases fl with
    | ret u => exact I.after q
    | _ => exact q.elim
theorem je_defG (h : HasG X.prog X.w X.K X.mg X.base k x ps m) (hm : ∀ (ws : List W) st, ws.length ≠ ps.length → m ws st = .stuck) (hr : Room j X.A) (gd : X.A.guards = some []) (ha : JA X E (e :: es) ds) (hj : k ≤ j := by decide) (hg : Gl X x := by rfl) (hdb : (x == ("__debug__" : Str)) = false := by decide)
    (he : starEach (e :: es) X.env = (false, eval e X.env) :: starEach es X.env := by rfl) (hpl : (backTo pos (starEach es X.env)).any (·.1) = false := by rfl) : JE X E (.Call (.Name x p) (e :: es) [] pos) (dCall m ds) := by
  obtain ⟨f, fd, h1, h2, h3, h4⟩ := h
  refine ⟨fun pins s σ H Q I hq => ?_⟩
  obtain ⟨F, G, mm, env, st, S, R, P⟩ := hq
  refine wpAny_Call_Name_kw (ld_glob I hg h1 ?_ hdb)
  have P0 : tA X.K X.mg E ds σ H fun vs H1 => spM X.K X.mg m vs H1 Q E0 := ⟨F, G, mm, env, st, S, R, (P.bind (R := RA)).imp fun vs H1 ⟨G1, m1, ws, st1, e1, S1, r1, P1⟩ => ⟨F, G1, m1, ws, st1, S1, r1, Post.nox P1⟩⟩
  refine PySem.W.callWith_K (h₀ := X.base) I.ok.mod.kin h2 (thn (ha.run pos pins s σ H _ I P0) fun us s1 ⟨vs, H1, I1, r, q⟩ => ⟨I1.kIn, ?_⟩) he hpl
  refine runG (h4 X.A (hr.mono hj) gd) ?_ h3 I1 r q
  obtain ⟨F2, G2, m2, ws, st2, S2, r2, P2⟩ := q
  rw [← r2.length]
  by_cases z : ws.length = ps.length
  · exact z
  · rw [hm ws st2 z] at P2
    exact P2.elim
theorem dBody_len {n tot : Nat} {s : S} {ws : List W} {st : Store} (h : ws.length ≠ n) : dBody n tot s ws st = .stuck := by
  unfold dBody
  exact if_neg h
end
end Sh


set_option maxRecDepth 100000
set_option maxHeartbeats 4000000
/-! the laws' model of charts: the same text in many laws -/
namespace Sh
open PySem L2 Evl
variable [Wd]
noncomputable def b_made : S :=
  (sSeq (sAsg (gAtK (dVar 0) (dVar 1)) (dAdd (dGetK (dVar 0) (dVar 1) (dUn oNeg (dC (.int 1)))) (dC (.int 1))))
  (sRet (dTup (dCons (dVar 1) (dCons (dAtK (dVar 0) (dVar 1)) dNil)))))
noncomputable def m_made : List W → M W := dBody 2 2 b_made
noncomputable def b_loop : S :=
  (sSeq (sIf (dB (dEq (dOp oIx (dVar 0) (dC (.int 0))) (dC (.str "tuck"))))
  (sRet (dTup (dCons (dC (.str "tuck")) (dCons (dPure (dLst dNil)) (dCons (dPure (dLst dNil)) dNil)))))
  sNil)
  (sSeq (sIf (dB (dNe (dOp oIx (dVar 0) (dC (.int 0))) (dC (.str "join"))))
  (sRet (dTup (dCons (dOp oIx (dVar 0) (dC (.int 0))) (dCons (dPure (dCallF cList (dCons (dVar 1) dNil))) (dCons (dPure (dCallF cList (dCons (dVar 1) dNil))) dNil)))))
  sNil)
  (sSeq (sIf (dB (dEq (dOp oIx (dVar 0) (dC (.int 2))) (dC (.str "right"))))
  (sRet (dTup (dCons (dOp oIx (dVar 0) (dC (.int 3))) (dCons (dPure (dRev (dVar 1))) (dCons (dPure (dCallF cList (dCons (dVar 1) dNil))) dNil)))))
  sNil)
  (sRet (dTup (dCons (dOp oIx (dVar 0) (dC (.int 3))) (dCons (dPure (dCallF cList (dCons (dVar 1) dNil))) (dCons (dPure (dCallF cList (dCons (dVar 1) dNil))) dNil))))))))
noncomputable def m_loop : List W → M W := dBody 2 2 b_loop
noncomputable def b_taken : S :=
  (sSeq (sIf (dB (dEq (dOp oIx (dVar 0) (dC (.int 0))) (dC (.str "join"))))
  (sRet (dOp oIx (dVar 0) (dC (.int 1))))
  sNil)
  (sRet (dCallB cInt (dCons (dNe (dOp oIx (dVar 0) (dC (.int 0))) (dC (.str "tuck"))) dNil))))
noncomputable def m_taken : List W → M W := dBody 1 1 b_taken
noncomputable def b_worked : S :=
  (sSeq (sAsg (gLi (gsCons (gN 3) (gsCons (gN 4) (gsCons (gN 5) (gsCons (gN 6) (gsCons (gN 7) gsNil)))))) (dVar 0))
  (sSeq (sSet 8 (dPure (dLc (iR1 (dCons (dCallB cLen (dCons (dVar 2) dNil)) dNil)) (gN 10) tYesW (dCallB cSum (dCons (dPure (dLc (iL (dPure (dSl (dVar 2) oNone (oSome (dVar 10))))) (gN 9) tYesW (dCall m_taken (dCons (dVar 9) dNil)) [9])) dNil)) [10])))
  (sSeq (sSet 11 (dCell (dLc (iL (dVar 2)) (gN 9) tYesW (dPure (dLst dNil)) [9])))
  (sSeq (sSet 12 (dCell (dListR (dCallB cLen (dCons (dVar 2) dNil)))))
  (sSeq (sIf (dB (dEq (dVar 1) (dC (.str "left"))))
  (sDrop (dBM0 tyL mReverse (dVar 12)))
  sNil)
  (sSeq (sFor (iL (dVar 12)) (gN 10)
  (sSeq (sSet 9 (dOp oIx (dVar 2) (dVar 10)))
  (sSeq (sSet 13 (dPure (dSl (dVar 3) (oSome (dOp oIx (dVar 8) (dVar 10))) (oSome (dAdd (dOp oIx (dVar 8) (dVar 10)) (dCall m_taken (dCons (dVar 9) dNil)))))))
  (sIf (dB (dEq (dOp oIx (dVar 9) (dC (.int 0))) (dC (.str "pass"))))
  (sAsg (gAt (dVar 11) (dVar 10)) (dVar 13))
  (sIf (dB (dEq (dOp oIx (dVar 9) (dC (.int 0))) (dC (.str "drop"))))
  (sDrop (dBM tyL mExtend (dVar 6) (dCons (dVar 13) dNil)))
  (sSeq (sSet 14 (dCall m_made (dCons (dVar 7) (dCons (dOp oIx (dVar 9) (dUn oNeg (dC (.int 1)))) dNil))))
  (sSeq (sAsg (gAtN (dVar 4) (dVar 14)) (dCall m_loop (dCons (dVar 9) (dCons (dVar 13) dNil))))
  (sAsg (gAt (dVar 11) (dVar 10)) (dPure (dLst (dCons (dVar 14) dNil)))))))))))
  (sSeq (sSet 15 (dPure (dLst dNil)))
  (sSeq (sFor (iL (dVar 11)) (gN 16)
  (sSet 15 (dPure (dOpF oCat (dVar 15) (dVar 16)))))
  (sRet (dPure (dLst (dCons (dVar 15) (dCons (dVar 4) (dCons (dVar 5) (dCons (dVar 6) (dCons (dVar 7) dNil))))))))))))))))
noncomputable def m_worked : List W → M W := dBody 3 17 b_worked
noncomputable def b_crossed : S :=
  (sDrop (dBM tyL mAppend (dDefN (dVar 0) (dCons (dTup (dCons (dCallB (cTwoD fun d e => PySem.W.dataLt e d) (dCons (dVar 1) (dCons (dVar 2) dNil))) (dCons (dCallB (cTwoD fun d e => PySem.W.dataLt d e) (dCons (dVar 1) (dCons (dVar 2) dNil))) dNil))) (dCons (dCell (dLst dNil)) dNil))) (dCons (dVar 1) dNil)))
noncomputable def m_crossed : List W → M W := dBody 3 3 b_crossed
noncomputable def b_moved : S :=
  (sSeq (sSet 2 (dPure (dCallF cList (dCons (dOp oIx (dVar 0) (dC (.int 0))) dNil))))
  (sSeq (sFor (iL (dVar 1)) (gN 3)
  (sSeq (sSet 4 (dOp oIx (dVar 2) (dOp oIx (dVar 3) (dC (.int 0)))))
  (sSeq (sSet 5 (dOp oIx (dVar 2) (dAdd (dOp oIx (dVar 3) (dC (.int 0))) (dC (.int 1)))))
  (sSeq (sIf (dB (dEq (dOp oIx (dVar 3) (dC (.int 1))) (dC (.str "left"))))
  (sDrop (dCall m_crossed (dCons (dOp oIx (dVar 0) (dC (.int 2))) (dCons (dVar 4) (dCons (dVar 5) dNil)))))
  (sDrop (dCall m_crossed (dCons (dOp oIx (dVar 0) (dC (.int 2))) (dCons (dVar 5) (dCons (dVar 4) dNil))))))
  (sSet 2 (dPure (dOpF oCat (dPure (dOpF oCat (dPure (dSl (dVar 2) oNone (oSome (dOp oIx (dVar 3) (dC (.int 0)))))) (dPure (dLst (dCons (dVar 5) (dCons (dVar 4) dNil)))))) (dPure (dSl (dVar 2) (oSome (dAdd (dOp oIx (dVar 3) (dC (.int 0))) (dC (.int 2)))) oNone)))))))))
  (sRet (dPure (dOpF oCat (dPure (dLst (dCons (dVar 2) dNil))) (dPure (dSl (dVar 0) (oSome (dC (.int 1))) oNone)))))))
noncomputable def m_moved : List W → M W := dBody 2 6 b_moved
noncomputable def b_done : S :=
  (sSeq (sSet 1 (dPure (dLst (dCons (dPure (dLst dNil)) (dCons dDictN (dCons dDictN (dCons (dCell (dLst dNil)) (dCons dDictK dNil))))))))
  (sSeq (sFor (iL (dVar 0)) (gN 2)
  (sIf (dB (dEq (dOp oIx (dVar 2) (dC (.int 0))) (dC (.str "work"))))
  (sSet 1 (dCall m_worked (dCons (dVar 1) (dCons (dOp oIx (dVar 2) (dC (.int 1))) (dCons (dOp oIx (dVar 2) (dC (.int 2))) dNil)))))
  (sSet 1 (dCall m_moved (dCons (dVar 1) (dCons (dOp oIx (dVar 2) (dC (.int 1))) dNil))))))
  (sRet (dVar 1))))
noncomputable def m_done : List W → M W := dBody 1 3 b_done
noncomputable def b_record : S :=
  (sSeq (sSet 4 (dPure (dLc (iL (dPure (dCallF cSortedN (dCons (dVar 0) dNil)))) (gN 5) tYesW (dTup (dCons (dVar 5) (dCons (dOp oIx (dOp oIxN (dVar 0) (dVar 5)) (dC (.int 0))) (dCons (dOp oIx (dOp oIxN (dVar 0) (dVar 5)) (dC (.int 1))) (dCons (dOp oIx (dOp oIxN (dVar 0) (dVar 5)) (dC (.int 2))) dNil))))) [5])))
  (sSeq (sSet 6 (dPure (dLc (iL (dPure (dCallF cSortedN (dCons (dVar 1) dNil)))) (gN 7) tYesW (dTup (dCons (dOp oIx (dVar 7) (dC (.int 0))) (dCons (dOp oIx (dVar 7) (dC (.int 1))) (dCons (dFz (dOp oIxN (dVar 1) (dVar 7))) dNil)))) [7])))
  (sRet (dTup (dCons (dVar 4) (dCons (dVar 6) (dCons (dVar 2) (dCons (dPure (dCallF cSortedD (dCons (dVar 3) dNil))) dNil))))))))
noncomputable def m_record : List W → M W := dBody 4 8 b_record
noncomputable def b_fabric : S :=
  (sSeq (sSet 1 (dCall m_done (dCons (dVar 0) dNil)))
  (sRet (dCall m_record (dCons (dOp oIx (dVar 1) (dC (.int 1))) (dCons (dOp oIx (dVar 1) (dC (.int 2))) (dCons (dPure (dLc (iL (dOp oIx (dVar 1) (dC (.int 0)))) (gN 2) tYesW (dPure (dLst (dCons (dVar 2) dNil))) [2])) (dCons (dOp oIx (dVar 1) (dC (.int 3))) dNil)))))))
noncomputable def m_fabric : List W → M W := dBody 1 3 b_fabric
end Sh


set_option maxRecDepth 100000
set_option maxHeartbeats 4000000
/-! the model's small defs, reckoned -/
namespace Sh
open PySem L2 Evl
variable [Wd]
/-- what a command draws through xs -/
def lpW (c : Cmd) (xs : List W) : W := match c with
  | .join _ lean side _ => .tup [.str side, .lst (if lean = "right" then xs.reverse else xs), .lst xs]
  | .two k _ => if k = "tuck" then .tup [.str "tuck", .lst [], .lst []] else .tup [.str k, .lst xs, .lst xs]
  | .one k => .tup [.str k, .lst xs, .lst xs]
section
variable {c : Cmd} {st : Store} {xs : List W}
theorem two0 : (0 : Nat) ≤ sizeLine := Nat.zero_le _
theorem rDe {da db : Env → M W} {env : Env} {st1 st2 : Store} {a b : Str} (h : da env st = .ok (.str a) st1) (k : db env st1 = .ok (.str b) st2) : dB (dEq da db) env st = .ok (decide (a = b)) st2 := rB (rOp h k (oEq_str a b st2))
theorem rDn {da db : Env → M W} {env : Env} {st1 st2 : Store} {a b : Str} (h : da env st = .ok (.str a) st1) (k : db env st1 = .ok (.str b) st2) : dB (dNe da db) env st = .ok (!decide (a = b)) st2 := rB (rOp h k (oNe_str a b st2))
theorem kind_at (c : Cmd) (st : Store) : oIx (cW c) (.int 0) st = .ok (.str c.kind) st := by
  obtain ⟨rest, h⟩ := cW_kind c
  rw [h]
  exact ix_at rfl (by decide) rfl
theorem rKind {i : Nat} {env : Env} (h : env[i]? = some (some (cW c))) : dOp oIx (dVar i) (dC (.int 0)) env st = .ok (.str c.kind) st := rOp (rV h) rC (kind_at c st)
theorem taken_run (hc : c.ok) : m_taken [cW c] st = .ok (.int c.tks) st := by
  cases c with
  | join n lean side y =>
    refine body_rt rfl (sSeq_rt (sIf_t ((rDe (rKind rfl) rC).trans (by rw [decide_eq_true]; rfl)) (sRet_at (rOp (rV rfl) rC ?_))))
    exact ix_at (xs := [.str "join", .int n, .str lean, .str side, .str y]) rfl (by decide) rfl
  | two k y =>
    have h : k ≠ "join" := by rcases hc.1 with rfl | rfl | rfl <;> decide
    refine body_rt rfl (sSeq_at (sIf_f ((rDe (rKind rfl) rC).trans (by rw [decide_eq_false]; exact h)) sNil_at) (sRet_at (rCallB (rCons (rOp (rKind rfl) rC (oNe_str _ _ _)) rNil) ?_)))
    rcases hc.1 with rfl | rfl | rfl <;> rfl
  | one k =>
    have h : k ≠ "join" := by rcases (show k = "pass" ∨ k = "drop" from hc) with rfl | rfl <;> decide
    refine body_rt rfl (sSeq_at (sIf_f ((rDe (rKind rfl) rC).trans (by rw [decide_eq_false]; exact h)) sNil_at) (sRet_at (rCallB (rCons (rOp (rKind rfl) rC (oNe_str _ _ _)) rNil) ?_)))
    rcases (show k = "pass" ∨ k = "drop" from hc) with rfl | rfl <;> rfl
theorem rLs {i : Nat} {env : Env} (h : env[i]? = some (some (.lst xs))) : dPure (dCallF cList (dCons (dVar i) dNil)) env st = .ok (.lst xs) st := rPure (rCallF (rCons (rV h) rNil) rfl)
theorem rRv {i : Nat} {env : Env} (h : env[i]? = some (some (.lst xs))) : dPure (dRev (dVar i)) env st = .ok (.lst xs.reverse) st := by
  refine rPure ?_
  unfold dRev
  rw [rV h]
  rfl
theorem three : (3 : Nat) ≤ sizeLine := line_ge (by decide)
theorem loop_run (hc : c.ok) (hk : ∀ k, c ≠ .one k) : m_loop [cW c, .lst xs] st = .ok (lpW c xs) st := by
  cases c with
  | one k => exact absurd rfl (hk k)
  | two k y =>
    by_cases e : k = "tuck"
    · subst e
      exact body_rt rfl (sSeq_rt (sIf_t ((rDe (rKind rfl) rC).trans (by rw [decide_eq_true]; rfl)) (sRet_at (rTup (rCons rC (rCons (rPure (rLst rNil two0)) (rCons (rPure (rLst rNil two0)) rNil))) three))))
    · have h : k ≠ "join" := by rcases hc.1 with rfl | rfl | rfl <;> decide
      have z : lpW (.two k y) xs = .tup [.str k, .lst xs, .lst xs] := if_neg e
      rw [z]
      refine body_rt rfl (sSeq_at (sIf_f ((rDe (rKind rfl) rC).trans (by rw [decide_eq_false]; exact e)) sNil_at) (sSeq_rt (sIf_t ((rDn (rKind rfl) rC).trans ?_) (sRet_at (rTup (rCons (w := .str k) (rKind (c := .two k y) rfl) (rCons (rLs rfl) (rCons (rLs rfl) rNil))) three)))))
      rw [decide_eq_false (show ¬ Cmd.kind (.two k y) = "join" from h)]
      rfl
  | join n lean side y =>
    have i2 : ∀ env : Env, env[0]? = some (some (cW (.join n lean side y))) → dOp oIx (dVar 0) (dC (.int 2)) env st = .ok (.str lean) st := fun env h => rOp (rV h) rC (ix_at (xs := [.str "join", .int n, .str lean, .str side, .str y]) rfl (by decide) rfl)
    have i3 : ∀ env : Env, env[0]? = some (some (cW (.join n lean side y))) → dOp oIx (dVar 0) (dC (.int 3)) env st = .ok (.str side) st := fun env h => rOp (rV h) rC (ix_at (xs := [.str "join", .int n, .str lean, .str side, .str y]) rfl (by decide) rfl)
    refine body_rt rfl (sSeq_at (sIf_f ((rDe (rKind rfl) rC).trans (by rw [decide_eq_false]; exact (show ¬ ("join" : Str) = "tuck" by decide))) sNil_at) (sSeq_at (sIf_f ((rDn (rKind rfl) rC).trans (by rw [decide_eq_true]; rfl; rfl)) sNil_at) ?_))
    by_cases e : lean = "right"
    · have z : lpW (.join n lean side y) xs = .tup [.str side, .lst xs.reverse, .lst xs] := by show W.tup [_, .lst (if _ then _ else _), _] = _; rw [if_pos e]
      rw [z]
      exact sSeq_rt (sIf_t ((rDe (i2 _ rfl) rC).trans (by rw [decide_eq_true e])) (sRet_at (rTup (rCons (i3 _ rfl) (rCons (rRv rfl) (rCons (rLs rfl) rNil))) three)))
    · have z : lpW (.join n lean side y) xs = .tup [.str side, .lst xs, .lst xs] := by show W.tup [_, .lst (if _ then _ else _), _] = _; rw [if_neg e]
      rw [z]
      exact sSeq_at (sIf_f ((rDe (i2 _ rfl) rC).trans (by rw [decide_eq_false e])) sNil_at) (sRet_at (rTup (rCons (i3 _ rfl) (rCons (rLs rfl) (rCons (rLs rfl) rNil))) three))
end
end Sh


set_option maxRecDepth 100000
set_option maxHeartbeats 4000000
/-! names, the loops of a chart, the counts of its yarns -/
namespace Sh
open PySem L2 Evl
variable [Wd]
abbrev Nm := Str × Nat
def nW (n : Nm) : W := .tup [.str n.1, .int (n.2 : Int)]
def nKey (n : Nm) : NestedKey := .tup [.text n.1, .num (n.2 : Int)]
omit [Wd] in
theorem nk_nW (n : Nm) : nkW (nW n) = some (nKey n) := rfl
omit [Wd] in
theorem nKey_inj {a b : Nm} (h : nKey a = nKey b) : a = b := by
  obtain ⟨a1, a2⟩ := a
  obtain ⟨b1, b2⟩ := b
  unfold nKey at h
  injection h with h
  injection h with h1 h2
  injection h1 with h1
  injection h2 with h2 _
  injection h2 with h2
  exact Prod.ext h1 (Int.ofNat.inj h2)
theorem nkT_nW (n : Nm) : nkT (nW n) = some (nKey n) := rfl
/-- the loops: name, command, what it was drawn through -/
abbrev Lp := Nm × Cmd × List Nm
def lpE (l : Lp) : W × W := (nW l.1, lpW l.2.1 (l.2.2.map nW))
omit [Wd] in
theorem look_none {n : Nm} : ∀ {L : List Lp}, n ∉ L.map (·.1) → lookW (L.map lpE) (nKey n) = none
  | [], _ => rfl
  | l :: L, h => by
    unfold lookW
    rw [List.map_cons, List.find?_cons]
    have ne : ¬ (nkW (lpE l).1 = some (nKey n)) := fun e => h (by
      rw [List.map_cons, ← nKey_inj (Option.some.inj ((nk_nW l.1).symm.trans e))]
      exact List.mem_cons_self)
    rw [decide_eq_false ne]
    exact look_none fun z => h (by rw [List.map_cons]; exact List.mem_cons_of_mem _ z)
omit [Wd] in
theorem put_new {L : List Lp} {l : Lp} (h : l.1 ∉ L.map (·.1)) : putW (L.map lpE) (nKey l.1) (nW l.1) (lpW l.2.1 (l.2.2.map nW)) = (L ++ [l]).map lpE := by
  unfold putW
  rw [look_none h, if_neg (by decide), List.map_append]
  rfl
/-- how many names a yarn has -/
def cnt (L : List Lp) (y : Str) : Nat := (L.filter fun l => decide (l.1.1 = y)).length
omit [Wd] in
theorem cnt_snoc (L : List Lp) (l : Lp) (y : Str) : cnt (L ++ [l]) y = cnt L y + if l.1.1 = y then 1 else 0 := by
  unfold cnt
  rw [List.filter_append, List.length_append, List.filter_cons]
  by_cases e : l.1.1 = y
  · rw [decide_eq_true e, if_pos e, if_pos rfl]
    rfl
  · rw [decide_eq_false e, if_neg e, if_neg (by decide)]
    rfl
/-- the names are counted off -/
def Cnt (L : List Lp) : Prop := ∀ l ∈ L, l.1.2 < cnt L l.1.1
omit [Wd] in
theorem Cnt.fresh {L : List Lp} (h : Cnt L) (y : Str) : (y, cnt L y) ∉ L.map (·.1) := fun z => by
  obtain ⟨l, hl, e⟩ := List.mem_map.mp z
  have q := h l hl
  rw [e] at q
  exact absurd q (Nat.lt_irrefl _)
omit [Wd] in
theorem Cnt.snoc {L : List Lp} (h : Cnt L) (y : Str) (c : Cmd) (xs : List Nm) : Cnt (L ++ [((y, cnt L y), c, xs)]) := fun l hl => by
  rw [cnt_snoc]
  rcases List.mem_append.mp hl with hl | hl
  · exact Nat.lt_of_lt_of_le (h l hl) (Nat.le_add_right _ _)
  · rw [List.mem_singleton.mp hl]
    show cnt L y < cnt L y + if y = y then 1 else 0
    rw [if_pos rfl]
    exact Nat.lt_succ_self _
/-- the dict of the counts -/
structure Made (kvs : List (Key × W)) (L : List Lp) : Prop where
  val : ∀ y, (valK kvs (.inr y)).getD (.int (-1)) = .int ((cnt L y : Int) - 1)
  len : kvs.length ≤ L.length
omit [Wd] in
theorem valK_map (k j : Key) (w : W) : ∀ kvs : List (Key × W), valK (kvs.map fun e => if e.1 = k then (e.1, w) else e) j = if j = k then (valK kvs j).map (fun _ => w) else valK kvs j
  | [] => by
    unfold valK
    rw [List.map_nil, List.find?_nil]
    split <;> rfl
  | e :: kvs => by
    have ih := valK_map k j w kvs
    unfold valK at ih ⊢
    rw [List.map_cons, List.find?_cons, List.find?_cons]
    by_cases a : e.1 = k
    · rw [if_pos a]
      by_cases b : e.1 = j
      · rw [decide_eq_true (show (e.1, w).1 = j from b), if_pos (b.symm.trans a)]
        rfl
      · rw [decide_eq_false (show ¬ (e.1, w).1 = j from b)]
        exact ih
    · rw [if_neg a]
      by_cases b : e.1 = j
      · rw [decide_eq_true b, if_neg fun z => a (b.trans z)]
      · rw [decide_eq_false b]
        exact ih
omit [Wd] in
theorem any_val (k : Key) : ∀ kvs : List (Key × W), (kvs.any fun e => decide (e.1 = k)) = (valK kvs k).isSome
  | [] => rfl
  | e :: kvs => by
    have ih := any_val k kvs
    unfold valK at ih ⊢
    rw [List.any_cons, List.find?_cons, ih]
    by_cases b : e.1 = k
    · rw [decide_eq_true b]; rfl
    · rw [decide_eq_false b]; rfl
omit [Wd] in
theorem valK_put (kvs : List (Key × W)) (k j : Key) (w : W) : valK (putKW kvs k w) j = if j = k then some w else valK kvs j := by
  unfold putKW
  rw [any_val]
  cases q : valK kvs k with
  | some v =>
    rw [Option.isSome_some, if_pos rfl, valK_map]
    by_cases e : j = k
    · rw [if_pos e, if_pos e, e, q]; rfl
    · rw [if_neg e, if_neg e]
  | none =>
    rw [Option.isSome_none, if_neg (by decide)]
    unfold valK at q ⊢
    rw [List.find?_append]
    by_cases e : j = k
    · subst e
      cases z : kvs.find? fun e => decide (e.1 = j) with
      | some v => rw [z] at q; cases q
      | none =>
        rw [if_pos rfl, Option.none_or, List.find?_cons, decide_eq_true rfl]
        rfl
    · rw [if_neg e]
      cases z : kvs.find? fun e => decide (e.1 = j) with
      | some v => rfl
      | none =>
        rw [Option.none_or, List.find?_cons, decide_eq_false (show ¬ (k, w).1 = j from fun z => e z.symm)]
        rfl
omit [Wd] in
theorem putK_len (kvs : List (Key × W)) (k : Key) (w : W) : (putKW kvs k w).length ≤ kvs.length + 1 := by
  unfold putKW
  split
  · rw [List.length_map]; exact Nat.le_succ _
  · rw [List.length_append, List.length_singleton]; exact Nat.le_refl _
omit [Wd] in
theorem Made.snoc {kvs : List (Key × W)} {L : List Lp} (h : Made kvs L) (y : Str) (c : Cmd) (xs : List Nm) : Made (putKW kvs (.inr y) (.int (cnt L y : Int))) (L ++ [((y, cnt L y), c, xs)]) := by
  refine ⟨fun z => ?_, ?_⟩
  · rw [valK_put, cnt_snoc]
    by_cases e : z = y
    · subst e
      rw [if_pos rfl, if_pos rfl]
      show W.int _ = _
      congr 1
      omega
    · rw [if_neg (fun q => e (Sum.inr.inj q)), h.val z, if_neg (fun q => e q.symm)]
      rfl
  · rw [List.length_append, List.length_singleton]
    exact Nat.le_trans (putK_len _ _ _) (Nat.succ_le_succ h.len)
section
variable {st : Store} {b : Nat} {kvs : List (Key × W)}
theorem kcell_lt {st : Store} {n : Nat} {kvs : List (Key × W)} (h : kcell st n = some kvs) : n < st.length := (List.getElem?_eq_some_iff.mp (kcell_some h)).1
theorem kcell_set {st : Store} {n : Nat} {kvs : List (Key × W)} (h : n < st.length) : kcell (st.set n (.dK kvs)) n = some kvs := by
  unfold kcell
  rw [List.getElem?_set_self h]
theorem made_run {y : Str} {L : List Lp} (h : kcell st b = some kvs) (M : Made kvs L) (l : L.length < sizeLine) :
    m_made [.cell b, .str y] st = .ok (nW (y, cnt L y)) (st.set b (.dK (putKW kvs (.inr y) (.int (cnt L y : Int))))) := by
  have g : dGetK (dVar 0) (dVar 1) (dUn oNeg (dC (.int 1))) [some (.cell b), some (.str y)] st = .ok (.int ((cnt L y : Int) - 1)) st := by
    unfold dGetK
    rw [rV (w := .cell b) rfl, Out.bind_ok]
    dsimp only
    rw [h]
    dsimp only
    rw [rV (w := .str y) rfl, Out.bind_ok]
    show (Out.ok (W.int (-1)) st).bind _ = _
    rw [Out.bind_ok, h]
    show Out.ok ((valK kvs (.inr y)).getD (.int (-1))) st = _
    rw [M.val y]
  have p : gAtK (dVar 0) (dVar 1) (.int (cnt L y : Int)) [some (.cell b), some (.str y)] st = .ok [some (.cell b), some (.str y)] (st.set b (.dK (putKW kvs (.inr y) (.int (cnt L y : Int))))) := by
    unfold gAtK
    rw [rV (w := .cell b) rfl, Out.bind_ok, rV (w := .str y) rfl, Out.bind_ok]
    dsimp only
    rw [h]
    exact if_pos (Nat.lt_of_le_of_lt M.len l)
  have a : dAtK (dVar 0) (dVar 1) [some (.cell b), some (.str y)] (st.set b (.dK (putKW kvs (.inr y) (.int (cnt L y : Int))))) = .ok (.int (cnt L y : Int)) (st.set b (.dK (putKW kvs (.inr y) (.int (cnt L y : Int))))) := by
    unfold dAtK
    rw [rV (w := .cell b) rfl, Out.bind_ok, rV (w := .str y) rfl, Out.bind_ok]
    dsimp only
    rw [kcell_set (kcell_lt h)]
    show (match valK (putKW kvs (.inr y) (.int (cnt L y : Int))) (.inr y) with | some w => _ | none => _) = _
    rw [valK_put, if_pos rfl]
  refine body_rt rfl (sSeq_at (sAsg_at (w := .int (cnt L y : Int)) (rOp g rC ?_) p) (sRet_at (rTup (rCons (rV rfl) (rCons a rNil)) (line_ge (show 2 ≤ 1024 by decide)))))
  show Out.ok (W.int _) st = _
  rw [show (cnt L y : Int) - 1 + 1 = cnt L y by omega]
end
end Sh


set_option maxRecDepth 100000
set_option maxHeartbeats 4000000
/-! slices, walks, longer lists -/
namespace Sh
open PySem L2 Evl
variable [Wd]
theorem big_ge {k : Nat} (h : k ≤ 1000000) : k ≤ sizeLine := Nat.le_trans h (by decide)
theorem big_lt {k : Nat} (h : k < 1000000) : k < sizeLine := Nat.lt_of_lt_of_le h (big_ge (Nat.le_refl _))
omit [Wd] in
theorem cut_fst {xs : List W} {k : Nat} (h : k ≤ xs.length) : cutW xs none (some (k : Int)) = xs.take k := by
  have z : ¬ (k : Int) < 0 := by omega
  unfold cutW
  simp only [HT.sIx, if_neg z, Int.toNat_natCast, Nat.min_eq_left h]
  simp
omit [Wd] in
theorem cut_mid {xs : List W} {a b : Nat} (h : a ≤ b) (h2 : b ≤ xs.length) : cutW xs (some (a : Int)) (some (b : Int)) = (xs.drop a).take (b - a) := by
  have za : ¬ (a : Int) < 0 := by omega
  have zb : ¬ (b : Int) < 0 := by omega
  unfold cutW
  simp only [HT.sIx, if_neg za, if_neg zb, Int.toNat_natCast, Nat.min_eq_left h2, Nat.min_eq_left (Nat.le_trans h h2)]
omit [Wd] in
theorem cut_lst {xs : List W} {a : Nat} (h : a ≤ xs.length) : cutW xs (some (a : Int)) none = xs.drop a := by
  have za : ¬ (a : Int) < 0 := by omega
  unfold cutW
  simp only [HT.sIx, if_neg za, Int.toNat_natCast, Nat.min_eq_left h]
  exact List.take_of_length_le (by rw [List.length_drop]; exact Nat.le_refl _)
theorem rNone {env : Env} {st : Store} : oNone env st = .ok none st := rfl
/-- a comprehension whose turns leave the store -/
theorem lc_calm {α : Type} {ok : Store → Prop} {g : T} {tt : Env → M Bool} {te : Env → M W} {env : Env} {st : Store} {u : α → W} {e2 : α → Env} {f : α → W} (hk : ok st) : ∀ (ws : List α) (acc : List W),
    (∀ w ∈ ws, g (u w) env st = .ok (e2 w) st ∧ tt (e2 w) st = .ok true st ∧ te (e2 w) st = .ok (f w) st) → acc.length + ws.length ≤ 1000000 → lcGo ok g tt te env (ws.map u) acc st = .ok (acc ++ ws.map f) st
  | [], acc, h, hz => by
    rw [List.map_nil, lcGo, if_pos hk, List.map_nil, List.append_nil]
  | w :: ws, acc, h, hz => by
    obtain ⟨h1, h2, h3⟩ := h w List.mem_cons_self
    rw [List.length_cons] at hz
    rw [List.map_cons, lcGo, if_pos hk, h1]
    show (tt (e2 w) st).nox.bind _ = _
    rw [h2, Out.nox_ok, Out.bind_ok, if_pos rfl, h3, Out.nox_ok, Out.bind_ok, if_pos (big_lt (by omega))]
    rw [lc_calm hk ws (acc ++ [f w]) (fun x hx => h x (List.mem_cons_of_mem _ hx)) (by rw [List.length_append, List.length_singleton]; omega), List.append_assoc]
    rfl
theorem ext_at {n : Nat} {xs ys : List W} {w : W} {st : Store} (h : lcell st n = some xs) (k : lviewT w st = some ys) (l : xs.length + ys.length ≤ 1000000) : mExtend (.cell n) [w] st = .ok .non (st.set n (.lst (xs ++ ys))) := by
  unfold mExtend
  dsimp only
  rw [h, k]
  exact if_pos (big_ge l)
theorem cat_at {x y : W} {xs ys : List W} {st : Store} (h : lviewT x st = some xs) (k : lviewT y st = some ys) (l : xs.length + ys.length ≤ 1000000) : oCat x y st = .ok (xs ++ ys) st := by
  unfold oCat
  rw [h, k]
  exact if_pos (big_ge l)
theorem app_at {r : Nat} {xs : List W} {w : W} {st : Store} (h : lcell st r = some xs) (l : xs.length < 1000000) : mAppend (.cell r) [w] st = .ok .non (st.set r (.lst (xs ++ [w]))) := by
  unfold mAppend
  dsimp only
  rw [h]
  exact if_pos (big_lt l)
theorem dcell_lt {st : Store} {n : Nat} {kvs : List (W × W)} (h : dcell st n = some kvs) : n < st.length := (List.getElem?_eq_some_iff.mp (dcell_some h)).1
theorem dcell_set {st : Store} {n : Nat} {kvs : List (W × W)} (h : n < st.length) : dcell (st.set n (.dN kvs)) n = some kvs := by
  unfold dcell
  rw [List.getElem?_set_self h]
theorem dcell_set_ne {st : Store} {n k : Nat} {c : C} (h : n ≠ k) : dcell (st.set n c) k = dcell st k := by
  unfold dcell
  rw [List.getElem?_set_ne h]
theorem kcell_set_ne {st : Store} {n k : Nat} {c : C} (h : n ≠ k) : kcell (st.set n c) k = kcell st k := by
  unfold kcell
  rw [List.getElem?_set_ne h]
theorem gAtN_at {o ix : Env → M W} {w kw : W} {k : NestedKey} {env : Env} {st st1 st2 : Store} {n : Nat} {kvs : List (W × W)} (ho : o env st = .ok (.cell n) st1) (hi : ix env st1 = .ok kw st2) (hd : dcell st2 n = some kvs) (hk : nkT kw = some k) (l : kvs.length < 1000000) :
    gAtN o ix w env st = .ok env (st2.set n (.dN (putW kvs k kw w))) := by
  unfold gAtN
  rw [ho, Out.bind_ok, hi, Out.bind_ok]
  dsimp only
  rw [hd, hk]
  exact if_pos (big_lt l)
theorem ixN_at {n : Nat} {kw w : W} {k : NestedKey} {kvs : List (W × W)} {st : Store} (hd : dcell st n = some kvs) (hk : nkT kw = some k) (hl : lookW kvs k = some w) : oIxN (.cell n) kw st = .ok w st := by
  unfold oIxN
  dsimp only
  rw [hd, hk]
  dsimp only
  rw [hl]
end Sh


set_option maxRecDepth 100000
set_option maxHeartbeats 4000000
/-! one command of a work line -/
namespace Sh
open PySem L2 Evl
variable [Wd]
def Cmd.yarn : Cmd → Str
  | .join _ _ _ y => y
  | .two _ y => y
  | .one _ => ""
/-- within a line: the loops, the dropped names, the columns behind the line, command by command -/
structure Pr where
  L : List Lp
  dr : List Nm
  af : List (List Nm)
def seg (row : List Nm) (cs : List Cmd) (i : Nat) : List Nm := match cs[i]? with
  | some c => (row.drop (tks (cs.take i)).toNat).take c.tks.toNat
  | none => []
def stp (row : List Nm) (cs : List Cmd) (p : Pr) (i : Nat) : Pr := match cs[i]? with
  | none => p
  | some (.one k) => if k = "pass" then { p with af := p.af.set i (seg row cs i) } else { p with dr := p.dr ++ seg row cs i }
  | some c => { L := p.L ++ [((c.yarn, cnt p.L c.yarn), c, seg row cs i)], dr := p.dr, af := p.af.set i [(c.yarn, cnt p.L c.yarn)] }
/-- the cells' numbers differ -/
structure Ne4 (a e f g : Nat) : Prop where
  ae : a ≠ e
  af : a ≠ f
  ag : a ≠ g
  ef : e ≠ f
  eg : e ≠ g
  fg : f ≠ g
structure WS (st0 st : Store) (a e f g : Nat) (p : Pr) : Prop where
  la : dcell st a = some (p.L.map lpE)
  le : lcell st e = some (p.dr.map nW)
  lf : ∃ kvs, kcell st f = some kvs ∧ Made kvs p.L
  lg : lcell st g = some (p.af.map fun xs => .lst (xs.map nW))
  cn : Cnt p.L
  len : st.length = st0.length
  fr : ∀ n, n ≠ a → n ≠ e → n ≠ f → n ≠ g → st[n]? = st0[n]?
abbrev wEnv (w d : W) (cs : List Cmd) (row : List Nm) (a b e f g h : Nat) (o9 o10 o13 o14 o15 o16 : Option W) : Env :=
  [some w, some d, some (.lst (cs.map cW)), some (.lst (row.map nW)), some (.cell a), some (.cell b), some (.cell e), some (.cell f), some (.lst ((List.range cs.length).map fun i => W.int (tks (cs.take i)))), o9, o10, some (.cell g), some (.cell h), o13, o14, o15, o16]
noncomputable abbrev wkBody : S :=
  (sSeq (sSet 9 (dOp oIx (dVar 2) (dVar 10)))
  (sSeq (sSet 13 (dPure (dSl (dVar 3) (oSome (dOp oIx (dVar 8) (dVar 10))) (oSome (dAdd (dOp oIx (dVar 8) (dVar 10)) (dCall m_taken (dCons (dVar 9) dNil)))))))
  (sIf (dB (dEq (dOp oIx (dVar 9) (dC (.int 0))) (dC (.str "pass"))))
  (sAsg (gAt (dVar 11) (dVar 10)) (dVar 13))
  (sIf (dB (dEq (dOp oIx (dVar 9) (dC (.int 0))) (dC (.str "drop"))))
  (sDrop (dBM tyL mExtend (dVar 6) (dCons (dVar 13) dNil)))
  (sSeq (sSet 14 (dCall m_made (dCons (dVar 7) (dCons (dOp oIx (dVar 9) (dUn oNeg (dC (.int 1)))) dNil))))
  (sSeq (sAsg (gAtN (dVar 4) (dVar 14)) (dCall m_loop (dCons (dVar 9) (dCons (dVar 13) dNil))))
  (sAsg (gAt (dVar 11) (dVar 10)) (dPure (dLst (dCons (dVar 14) dNil))))))))))
omit [Wd] in
theorem ixN_nat {n i : Nat} (h : i < n) : ixN n (i : Int) = some i := by
  unfold ixN
  rw [if_pos (by omega), if_pos (by omega), Int.toNat_natCast]
omit [Wd] in
theorem map_seg {row : List Nm} {cs : List Cmd} {i : Nat} {c : Cmd} (h : cs[i]? = some c) (h0 : 0 ≤ tks (cs.take i)) (h1 : 0 ≤ c.tks) (h2 : tks (cs.take i) + c.tks ≤ row.length) :
    cutW (row.map nW) (some (tks (cs.take i))) (some (tks (cs.take i) + c.tks)) = (seg row cs i).map nW := by
  obtain ⟨s, hs⟩ : ∃ s : Nat, tks (cs.take i) = s := ⟨(tks (cs.take i)).toNat, by omega⟩
  obtain ⟨t, ht⟩ : ∃ t : Nat, c.tks = t := ⟨c.tks.toNat, by omega⟩
  unfold seg
  rw [h]
  dsimp only
  rw [hs, ht, Int.toNat_natCast, Int.toNat_natCast, List.map_take, List.map_drop]
  have e : ((s : Int) + (t : Int)) = ((s + t : Nat) : Int) := by omega
  rw [e, cut_mid (by omega) (by rw [List.length_map]; omega)]
  congr 1
  omega
omit [Wd] in
theorem seg_len {row : List Nm} {cs : List Cmd} {i : Nat} : (seg row cs i).length ≤ row.length := by
  unfold seg
  split
  · rw [List.length_take, List.length_drop]; omega
  · exact Nat.zero_le _
section
variable {st0 st : Store} {a b e f g h : Nat} {p : Pr} {cs : List Cmd} {row : List Nm} {c : Cmd} {i : Nat} {w d : W} {o9 o13 o14 o15 o16 : Option W}
theorem wk_turn (ne : Ne4 a e f g) (S : WS st0 st a e f g p) (hi : cs[i]? = some c) (hc : c.ok) (h0 : 0 ≤ tks (cs.take i)) (h1 : 0 ≤ c.tks) (h2 : tks (cs.take i) + c.tks ≤ row.length) (hl : p.af.length = cs.length)
    (z1 : p.L.length < 400000) (z2 : p.dr.length ≤ 400000) (z3 : row.length ≤ 400000) :
    ∃ (o9' o13' o14' : Option W) (st' : Store), wkBody (wEnv w d cs row a b e f g h o9 (some (.int (i : Int))) o13 o14 o15 o16) st = .nx (wEnv w d cs row a b e f g h o9' (some (.int (i : Int))) o13' o14' o15 o16) st' ∧ WS st0 st' a e f g (stp row cs p i) := by
  have il : i < cs.length := (List.getElem?_eq_some_iff.mp hi).1
  have ig : i < p.af.length := by omega
  have igm : i < (p.af.map fun xs => W.lst (xs.map nW)).length := by rw [List.length_map]; exact ig
  have x9 : ∀ {o13 o14}, dOp oIx (dVar 2) (dVar 10) (wEnv w d cs row a b e f g h o9 (some (.int (i : Int))) o13 o14 o15 o16) st = .ok (cW c) st := rOp (rV rfl) (rV rfl) (ix_at rfl (Int.natCast_nonneg i) (by rw [Int.toNat_natCast, List.getElem?_map, hi]; rfl))
  have x8 : ∀ {o9 o13 o14}, dOp oIx (dVar 8) (dVar 10) (wEnv w d cs row a b e f g h o9 (some (.int (i : Int))) o13 o14 o15 o16) st = .ok (.int (tks (cs.take i))) st := rOp (rV rfl) (rV rfl) (ix_at rfl (Int.natCast_nonneg i) (by rw [Int.toNat_natCast, List.getElem?_map, List.getElem?_range il]; rfl))
  have x13 : dPure (dSl (dVar 3) (oSome (dOp oIx (dVar 8) (dVar 10))) (oSome (dAdd (dOp oIx (dVar 8) (dVar 10)) (dCall m_taken (dCons (dVar 9) dNil))))) (wEnv w d cs row a b e f g h (some (cW c)) (some (.int (i : Int))) o13 o14 o15 o16) st = .ok (.lst ((seg row cs i).map nW)) st := by
    rw [← map_seg hi h0 h1 h2]
    exact rPure (rSl (w := .lst (row.map nW)) (rV rfl) (rSome x8) (rSome (rOp x8 (rCall (rCons (rV rfl) rNil) (taken_run hc)) rfl)) rfl)
  have hga : lcell st g = some (p.af.map fun xs => W.lst (xs.map nW)) := S.lg
  have setaf : ∀ xs : List Nm, (p.af.set i xs).map (fun xs => W.lst (xs.map nW)) = (p.af.map fun xs => W.lst (xs.map nW)).set i (.lst (xs.map nW)) := fun xs => List.map_set
  have make : (∀ k, c ≠ .one k) → ¬ c.kind = "pass" → ¬ c.kind = "drop" → (∀ st, oIx (cW c) (.int (-1)) st = .ok (.str c.yarn) st) → stp row cs p i = { L := p.L ++ [((c.yarn, cnt p.L c.yarn), c, seg row cs i)], dr := p.dr, af := p.af.set i [(c.yarn, cnt p.L c.yarn)] } →
      ∃ (o9' o13' o14' : Option W) (st' : Store), wkBody (wEnv w d cs row a b e f g h o9 (some (.int (i : Int))) o13 o14 o15 o16) st = .nx (wEnv w d cs row a b e f g h o9' (some (.int (i : Int))) o13' o14' o15 o16) st' ∧ WS st0 st' a e f g (stp row cs p i) := by
    intro k1 k2 k3 k4 e1
    rw [e1]
    obtain ⟨kvs, q1, q2⟩ := S.lf
    have nn := S.cn.fresh c.yarn
    have q3 := put_new (l := ((c.yarn, cnt p.L c.yarn), c, seg row cs i)) nn
    have lf := kcell_lt q1
    have la := dcell_lt S.la
    have lg := lcell_lt hga
    generalize hk2 : putKW kvs (.inr c.yarn) (.int (cnt p.L c.yarn : Int)) = kvs2
    have M2 : Made kvs2 (p.L ++ [((c.yarn, cnt p.L c.yarn), c, seg row cs i)]) := by rw [← hk2]; exact q2.snoc _ _ _
    have mk : m_made [.cell f, .str c.yarn] st = .ok (nW (c.yarn, cnt p.L c.yarn)) (st.set f (.dK kvs2)) := by rw [made_run q1 q2 (big_lt (by omega)), hk2]
    refine ⟨some (cW c), some (.lst ((seg row cs i).map nW)), some (nW (c.yarn, cnt p.L c.yarn)), ((st.set f (.dK kvs2)).set a (.dN ((p.L ++ [((c.yarn, cnt p.L c.yarn), c, seg row cs i)]).map lpE))).set g (.lst ((p.af.map fun xs => W.lst (xs.map nW)).set i (.lst [nW (c.yarn, cnt p.L c.yarn)]))), ?_, ?_⟩
    · refine sSeq_at (sSet_at x9) (sSeq_at (sSet_at x13) (sIf_f ((rDe (rKind rfl) rC).trans (by rw [decide_eq_false k2])) (sIf_f ((rDe (rKind rfl) rC).trans (by rw [decide_eq_false k3])) ?_)))
      refine sSeq_at (sSet_at (rCall (rCons (rV rfl) (rCons (rOp (rV rfl) (y := .int (-1)) rfl (k4 _)) rNil)) mk)) ?_
      refine sSeq_at (sAsg_at (rCall (rCons (rV rfl) (rCons (rV rfl) rNil)) (loop_run hc k1)) (gAtN_at (rV rfl) (rV rfl) (by rw [dcell_set_ne ne.af.symm]; exact S.la) (nkT_nW _) (by rw [List.length_map]; omega))) ?_
      rw [q3]
      exact sAsg_at (rPure (rLst (rCons (rV rfl) rNil) (line_ge (show 1 ≤ 1024 by decide)))) (gAt_at (rV rfl) (rV rfl) (by rw [lcell_set_ne ne.ag, lcell_set_ne ne.fg]; exact hga) (ixN_nat igm))
    · refine ⟨?_, ?_, ⟨kvs2, ?_, M2⟩, ?_, S.cn.snoc _ _ _, ?_, fun n n1 n2 n3 n4 => ?_⟩
      · rw [dcell_set_ne ne.ag.symm, dcell_set (by rw [List.length_set]; exact la)]
      · rw [lcell_set_ne ne.eg.symm, lcell_set_ne ne.ae, lcell_set_ne ne.ef.symm]
        exact S.le
      · rw [kcell_set_ne ne.fg.symm, kcell_set_ne ne.af, kcell_set lf]
      · rw [lcell_set (by rw [List.length_set, List.length_set]; exact lg), setaf]
        rfl
      · rw [List.length_set, List.length_set, List.length_set]; exact S.len
      · rw [List.getElem?_set_ne (Ne.symm n4), List.getElem?_set_ne (Ne.symm n1), List.getElem?_set_ne (Ne.symm n3)]
        exact S.fr n n1 n2 n3 n4
  cases c with
  | one k =>
    by_cases hk : k = "pass"
    · subst hk
      have e1 : stp row cs p i = { p with af := p.af.set i (seg row cs i) } := by unfold stp; rw [hi]; rfl
      rw [e1]
      refine ⟨some (cW (.one "pass")), some (.lst ((seg row cs i).map nW)), o14, st.set g (.lst ((p.af.map fun xs => W.lst (xs.map nW)).set i (.lst ((seg row cs i).map nW)))), ?_, ?_⟩
      · refine sSeq_at (sSet_at x9) (sSeq_at (sSet_at x13) (sIf_t ((rDe (rKind rfl) rC).trans (by rw [decide_eq_true]; rfl)) ?_))
        exact sAsg_at (rV rfl) (gAt_at (rV rfl) (rV rfl) hga (ixN_nat igm))
      · refine ⟨by rw [dcell_set_ne ne.ag.symm]; exact S.la, by rw [lcell_set_ne ne.eg.symm]; exact S.le, ?_, by rw [lcell_set (lcell_lt hga), ← setaf], S.cn, by rw [List.length_set]; exact S.len, fun n n1 n2 n3 n4 => by rw [List.getElem?_set_ne (Ne.symm n4)]; exact S.fr n n1 n2 n3 n4⟩
        obtain ⟨kvs, q1, q2⟩ := S.lf
        exact ⟨kvs, by rw [kcell_set_ne ne.fg.symm]; exact q1, q2⟩
    · have hd : k = "drop" := (show k = "pass" ∨ k = "drop" from hc).resolve_left hk
      subst hd
      have e1 : stp row cs p i = { p with dr := p.dr ++ seg row cs i } := by unfold stp; rw [hi]; rfl
      rw [e1]
      have sl := seg_len (row := row) (cs := cs) (i := i)
      refine ⟨some (cW (.one "drop")), some (.lst ((seg row cs i).map nW)), o14, st.set e (.lst (p.dr.map nW ++ (seg row cs i).map nW)), ?_, ?_⟩
      · refine sSeq_at (sSet_at x9) (sSeq_at (sSet_at x13) (sIf_f ((rDe (rKind rfl) rC).trans (by rw [decide_eq_false]; exact hk)) (sIf_t ((rDe (rKind rfl) rC).trans (by rw [decide_eq_true]; rfl)) ?_)))
        exact sDrop_at (rBM (rV rfl) (tyL_cell S.le) (rCons (rV rfl) rNil) (ext_at S.le rfl (by rw [List.length_map, List.length_map]; omega)))
      · refine ⟨by rw [dcell_set_ne ne.ae.symm]; exact S.la, by rw [lcell_set (lcell_lt S.le), List.map_append], ?_, by rw [lcell_set_ne ne.eg]; exact hga, S.cn, by rw [List.length_set]; exact S.len, fun n n1 n2 n3 n4 => by rw [List.getElem?_set_ne (Ne.symm n2)]; exact S.fr n n1 n2 n3 n4⟩
        obtain ⟨kvs, q1, q2⟩ := S.lf
        exact ⟨kvs, by rw [kcell_set_ne ne.ef]; exact q1, q2⟩
  | two k y =>
    refine make (fun _ z => nomatch z) (fun z => ?_) (fun z => ?_) (fun st => ix_last (xs := [.str k]) rfl) (by unfold stp; rw [hi])
    · rcases hc.1 with rfl | rfl | rfl <;> cases z
    · rcases hc.1 with rfl | rfl | rfl <;> cases z
  | join n lean side y =>
    refine make (fun _ z => nomatch z) (fun z => ?_) (fun z => ?_) (fun st => ix_last (xs := [.str "join", .int n, .str lean, .str side]) rfl) (by unfold stp; rw [hi])
    · cases z
    · cases z
end
end Sh


set_option maxRecDepth 100000
set_option maxHeartbeats 4000000
/-! a work line -/
namespace Sh
open PySem L2 Evl
variable [Wd]
omit [Wd] in
theorem tks_nonneg : ∀ {cs : List Cmd}, (∀ c ∈ cs, c.ok) → 0 ≤ tks cs
  | [], _ => Int.le_refl _
  | c :: cs, h => by
    have ih := tks_nonneg fun x hx => h x (List.mem_cons_of_mem _ hx)
    have hc := h c List.mem_cons_self
    unfold tks at ih ⊢
    rw [List.map_cons, List.sum_cons]
    have : 0 ≤ c.tks := by
      cases c with
      | join n lean side y => have := hc.1.1; show 0 ≤ n; omega
      | two k y => show (0 : Int) ≤ if k = "tuck" then 0 else 1; split <;> omega
      | one k => show (0 : Int) ≤ 1; omega
    omega
omit [Wd] in
theorem tks_one {c : Cmd} (h : c.ok) : 0 ≤ c.tks := by
  have := tks_nonneg (cs := [c]) fun x hx => by rw [List.mem_singleton.mp hx]; exact h
  unfold tks at this
  simpa using this
omit [Wd] in
theorem tks_app (xs ys : List Cmd) : tks (xs ++ ys) = tks xs + tks ys := by
  unfold tks
  rw [List.map_append, List.sum_append]
omit [Wd] in
theorem tks_at {cs : List Cmd} (h : ∀ c ∈ cs, c.ok) {i : Nat} {c : Cmd} (hi : cs[i]? = some c) : 0 ≤ tks (cs.take i) ∧ tks (cs.take i) + c.tks ≤ tks cs := by
  have il := (List.getElem?_eq_some_iff.mp hi).1
  have e : cs = cs.take i ++ ([c] ++ cs.drop (i + 1)) := by
    have e2 : cs.drop i = c :: cs.drop (i + 1) := by
      rw [List.drop_eq_getElem_cons il]
      congr 1
      exact (List.getElem?_eq_some_iff.mp hi).2
    rw [List.singleton_append, ← e2, List.take_append_drop]
  have a := tks_nonneg (cs := cs.take i) fun x hx => h x (List.mem_of_mem_take hx)
  have b := tks_nonneg (cs := cs.drop (i + 1)) fun x hx => h x (List.mem_of_mem_drop hx)
  have s : tks [c] = c.tks := by unfold tks; simp
  have q := congrArg tks e
  rw [tks_app, tks_app, s] at q
  exact ⟨a, by omega⟩
omit [Wd] in
theorem stp_af {row : List Nm} {cs : List Cmd} {p : Pr} {i : Nat} : (stp row cs p i).af.length = p.af.length := by
  unfold stp
  split
  · rfl
  · split
    · exact List.length_set
    · rfl
  · exact List.length_set
omit [Wd] in
theorem stp_L {row : List Nm} {cs : List Cmd} {p : Pr} {i : Nat} : (stp row cs p i).L.length ≤ p.L.length + 1 := by
  unfold stp
  split
  · exact Nat.le_succ _
  · split <;> exact Nat.le_succ _
  · rw [List.length_append]; exact Nat.le_refl _
omit [Wd] in
theorem stp_dr {row : List Nm} {cs : List Cmd} {p : Pr} {i : Nat} : (stp row cs p i).dr.length ≤ p.dr.length + row.length := by
  have s := seg_len (row := row) (cs := cs) (i := i)
  unfold stp
  split
  · exact Nat.le_add_right _ _
  · split
    · exact Nat.le_add_right _ _
    · show (p.dr ++ _).length ≤ _
      rw [List.length_append]
      exact Nat.add_le_add_left s _
  · exact Nat.le_add_right _ _
section
variable {st0 : Store} {a b e f g h : Nat} {cs : List Cmd} {row : List Nm} {w d : W} {o15 o16 : Option W}
theorem wk_loop (ne : Ne4 a e f g) (hh : h ≠ a ∧ h ≠ e ∧ h ≠ f ∧ h ≠ g) {ord : List W} (ho : lcell st0 h = some ord) (hc : ∀ c ∈ cs, c.ok) (ht : tks cs ≤ row.length) (z3 : row.length ≤ 320) : ∀ (is : List Nat) (p : Pr) (st : Store) (o9 o10 o13 o14 : Option W),
    (∀ i ∈ is, i < cs.length) → WS st0 st a e f g p → p.af.length = cs.length → p.L.length + is.length ≤ 300000 → p.dr.length + is.length * 320 ≤ 300000 →
    ∃ (o9' o10' o13' o14' : Option W) (st' : Store), forGo (fun st => lcell st h = some ord) (gN 10) wkBody (is.map fun i : Nat => W.int (i : Int)) (wEnv w d cs row a b e f g h o9 o10 o13 o14 o15 o16) st = .nx (wEnv w d cs row a b e f g h o9' o10' o13' o14' o15 o16) st' ∧ WS st0 st' a e f g (is.foldl (stp row cs) p)
  | [], p, st, o9, o10, o13, o14, hi, S, hl, z1, z2 => ⟨o9, o10, o13, o14, st, forGo_nil (by
      show lcell st h = _
      unfold lcell at ho ⊢
      rw [S.fr h hh.1 hh.2.1 hh.2.2.1 hh.2.2.2]
      exact ho), S⟩
  | i :: is, p, st, o9, o10, o13, o14, hi, S, hl, z1, z2 => by
    have il := hi i List.mem_cons_self
    have q := List.getElem?_eq_getElem il
    have okc := hc _ (List.getElem_mem il)
    obtain ⟨t1, t2⟩ := tks_at hc q
    rw [List.length_cons] at z1 z2
    obtain ⟨a9, a13, a14, st1, e1, S1⟩ := wk_turn (w := w) (d := d) (b := b) (h := h) (o9 := o9) (o13 := o13) (o14 := o14) (o15 := o15) (o16 := o16) ne S q okc t1 (tks_one okc) (Int.le_trans t2 ht) hl (by omega) (by omega) (by omega)
    have l1 := stp_L (row := row) (cs := cs) (p := p) (i := i)
    have l2 := stp_dr (row := row) (cs := cs) (p := p) (i := i)
    obtain ⟨b9, b10, b13, b14, st2, e2, S2⟩ := wk_loop ne hh ho hc ht z3 is (stp row cs p i) st1 a9 (some (.int (i : Int))) a13 a14 (fun j hj => hi j (List.mem_cons_of_mem _ hj)) S1 (stp_af.trans hl) (by omega) (by omega)
    refine ⟨b9, b10, b13, b14, st2, ?_, S2⟩
    rw [List.map_cons, forGo_nx (ok := fun st => lcell st h = some ord) (env1 := wEnv w d cs row a b e f g h o9 (some (.int (i : Int))) o13 o14 o15 o16) (st1 := st) (by
      show lcell st h = _
      unfold lcell at ho ⊢
      rw [S.fr h hh.1 hh.2.1 hh.2.2.1 hh.2.2.2]
      exact ho) rfl e1]
    exact e2
/-- the columns one behind the other -/
theorem cat_loop {o9 o10 o13 o14 : Option W} : ∀ (xss acc : List (List Nm)) (st : Store) (o16 : Option W) (af : List W), lcell st g = some af → acc.flatten.length + (xss.map List.length).sum ≤ 900000 →
    ∃ o16' : Option W, forGo (fun st => lcell st g = some af) (gN 16) (sSet 15 (dPure (dOpF oCat (dVar 15) (dVar 16)))) (xss.map fun xs => W.lst (xs.map nW)) (wEnv w d cs row a b e f g h o9 o10 o13 o14 (some (.lst (acc.flatten.map nW))) o16) st =
      .nx (wEnv w d cs row a b e f g h o9 o10 o13 o14 (some (.lst ((acc ++ xss).flatten.map nW))) o16') st
  | [], acc, st, o16, af, hg, z => ⟨o16, by rw [List.append_nil]; exact forGo_nil hg⟩
  | xs :: xss, acc, st, o16, af, hg, z => by
    rw [List.map_cons, List.sum_cons] at z
    obtain ⟨o, e1⟩ := cat_loop xss (acc ++ [xs]) st (some (.lst (xs.map nW))) af hg (by rw [List.flatten_append, List.length_append, List.flatten_cons, List.flatten_nil, List.append_nil]; omega)
    refine ⟨o, ?_⟩
    rw [List.append_assoc, List.singleton_append] at e1
    rw [List.map_cons, forGo_nx (env1 := wEnv w d cs row a b e f g h o9 o10 o13 o14 (some (.lst (acc.flatten.map nW))) (some (.lst (xs.map nW)))) (st1 := st) (env2 := wEnv w d cs row a b e f g h o9 o10 o13 o14 (some (.lst ((acc ++ [xs]).flatten.map nW))) (some (.lst (xs.map nW)))) (st2 := st) hg rfl ?_]
    · exact e1
    · have fe : (acc ++ [xs]).flatten.map nW = acc.flatten.map nW ++ xs.map nW := by rw [List.flatten_append, List.flatten_cons, List.flatten_nil, List.append_nil, List.map_append]
      rw [fe]
      exact sSet_at (rPure (rOpF (rV rfl) (rV rfl) (cat_at rfl rfl (by rw [List.length_map, List.length_map]; omega))))
end
end Sh


set_option maxRecDepth 100000
set_option maxHeartbeats 4000000
namespace Sh
open PySem L2 Evl
variable [Wd]
omit [Wd] in
theorem rng_nat (n : Nat) : rngW 0 n = (List.range n).map fun i : Nat => W.int (i : Int) := by
  unfold rngW
  exact List.map_congr_left fun i _ => by rw [Int.zero_add]
/-- the order in which a line is worked -/
def ordr (d : Str) (n : Nat) : List Nat := if d = "left" then (List.range n).reverse else List.range n
def wkd (d : Str) (cs : List Cmd) (row : List Nm) (L : List Lp) (dr : List Nm) : Pr := (ordr d cs.length).foldl (stp row cs) ⟨L, dr, cs.map fun _ => []⟩
/-- a chart's world in the store -/
structure At (st : Store) (a e f : Nat) (L : List Lp) (dr : List Nm) : Prop where
  la : dcell st a = some (L.map lpE)
  le : lcell st e = some (dr.map nW)
  lf : ∃ kvs, kcell st f = some kvs ∧ Made kvs L
  cn : Cnt L
structure Ne3 (a e f : Nat) : Prop where
  ae : a ≠ e
  af : a ≠ f
  ef : e ≠ f
abbrev world (row : List Nm) (a b e f : Nat) : W := .lst [.lst (row.map nW), .cell a, .cell b, .cell e, .cell f]
theorem rCl {d : Env → M W} {env : Env} {st st1 : Store} {n : Nat} {xs : List W} (h : d env st = .ok (.cell n) st1) (k : lcell st1 n = some xs) : iL d env st = .ok ⟨xs, fun st => lcell st n = some xs⟩ st1 := by
  unfold iL
  rw [h, Out.bind_ok]
  dsimp only
  rw [k]
omit [Wd] in
theorem foldl_af {row : List Nm} {cs : List Cmd} : ∀ (is : List Nat) (p : Pr), (is.foldl (stp row cs) p).af.length = p.af.length
  | [], _ => rfl
  | i :: is, p => by rw [List.foldl_cons, foldl_af is, stp_af]
omit [Wd] in
theorem mem_set' {α : Type} {xs : List α} {i : Nat} {x y : α} (h : y ∈ xs.set i x) : y ∈ xs ∨ y = x := by
  induction xs generalizing i with
  | nil => cases h
  | cons a as ih =>
    cases i with
    | zero =>
      rcases List.mem_cons.mp h with h | h
      · exact .inr h
      · exact .inl (List.mem_cons_of_mem _ h)
    | succ i =>
      rcases List.mem_cons.mp h with h | h
      · exact .inl (h ▸ List.mem_cons_self)
      · exact (ih h).imp (List.mem_cons_of_mem _) id
omit [Wd] in
theorem stp_afl {row : List Nm} {cs : List Cmd} {p : Pr} {i : Nat} (hr : row.length ≤ 320) (h : ∀ xs ∈ p.af, xs.length ≤ 320) : ∀ xs ∈ (stp row cs p i).af, xs.length ≤ 320 := by
  have s := Nat.le_trans (seg_len (row := row) (cs := cs) (i := i)) hr
  intro xs hx
  unfold stp at hx
  split at hx
  · exact h xs hx
  · split at hx
    · rcases mem_set' hx with hx | rfl
      · exact h xs hx
      · exact s
    · exact h xs hx
  · rcases mem_set' hx with hx | rfl
    · exact h xs hx
    · exact (by decide : 1 ≤ 320)
omit [Wd] in
theorem foldl_afl {row : List Nm} {cs : List Cmd} (hr : row.length ≤ 320) : ∀ (is : List Nat) (p : Pr), (∀ xs ∈ p.af, xs.length ≤ 320) → ∀ xs ∈ (is.foldl (stp row cs) p).af, xs.length ≤ 320
  | [], _, h => h
  | i :: is, p, h => foldl_afl hr is _ (stp_afl hr h)
omit [Wd] in
theorem sum_le {xss : List (List Nm)} (h : ∀ xs ∈ xss, xs.length ≤ 320) : (xss.map List.length).sum ≤ 320 * xss.length := by
  induction xss with
  | nil => exact Nat.le_refl _
  | cons xs xss ih =>
    have a := h xs List.mem_cons_self
    have b := ih fun x hx => h x (List.mem_cons_of_mem _ hx)
    rw [List.map_cons, List.sum_cons, List.length_cons]
    omega
section
variable {st : Store} {a b e f : Nat} {cs : List Cmd} {row : List Nm} {L : List Lp} {dr : List Nm} {d : Str}
theorem starts_run {w0 w3 w4 w5 w6 w7 : Option W} (hc : ∀ c ∈ cs, c.ok) (hz : cs.length ≤ 1000) :
    dPure (dLc (iR1 (dCons (dCallB cLen (dCons (dVar 2) dNil)) dNil)) (gN 10) tYesW (dCallB cSum (dCons (dPure (dLc (iL (dPure (dSl (dVar 2) oNone (oSome (dVar 10))))) (gN 9) tYesW (dCall m_taken (dCons (dVar 9) dNil)) [9])) dNil)) [10])
      [w0, some (.str d), some (.lst (cs.map cW)), w3, w4, w5, w6, w7, none, none, none, none, none, none, none, none, none] st = .ok (.lst ((List.range cs.length).map fun i => W.int (tks (cs.take i)))) st := by
  have ln : cLen [.lst (cs.map cW)] st = .ok (.int (cs.length : Int)) st := by rw [cLen_at (w := .lst (cs.map cW)) rfl, List.length_map]
  refine rPure (rLc (rR1 (n := cs.length) (rCons (rCallB (rCons (rV rfl) rNil) ln) rNil) (sm_nat (by omega))) ?_)
  rw [rng_nat]
  refine (lc_calm True.intro (e2 := fun i : Nat => [w0, some (.str d), some (.lst (cs.map cW)), w3, w4, w5, w6, w7, none, none, some (.int (i : Int)), none, none, none, none, none, none]) (f := fun i => W.int (tks (cs.take i))) (List.range cs.length) [] (fun i hi => ⟨rfl, rfl, ?_⟩) (by rw [List.length_range]; simp; omega)).trans (by rw [List.nil_append])
  have il := List.mem_range.mp hi
  have sl : dSl (dVar 2) oNone (oSome (dVar 10)) [w0, some (.str d), some (.lst (cs.map cW)), w3, w4, w5, w6, w7, none, none, some (.int (i : Int)), none, none, none, none, none, none] st = .ok ((cs.take i).map cW) st := by
    rw [rSl (w := .lst (cs.map cW)) (l := none) (h := some (i : Int)) (rV rfl) rNone (rSome (rV rfl)) rfl, cut_fst (by rw [List.length_map]; omega), List.map_take]
  refine rCallB (st1 := st) (rCons (w := .lst ((cs.take i).map fun c => W.int c.tks)) (rPure (rLc (rList (rPure sl)) ?_)) rNil) ?_
  · refine (lc_calm True.intro (e2 := fun c : Cmd => [w0, some (.str d), some (.lst (cs.map cW)), w3, w4, w5, w6, w7, none, some (cW c), some (.int (i : Int)), none, none, none, none, none, none]) (f := fun c => W.int c.tks) (cs.take i) [] (fun c hx => ⟨rfl, rfl, rCall (rCons (rV rfl) rNil) (taken_run (hc c (List.mem_of_mem_take hx)))⟩) (by rw [List.length_take]; simp; omega)).trans (by rw [List.nil_append])
  · have em : (cs.take i).map (fun c => W.int c.tks) = ((cs.take i).map Cmd.tks).map W.int := by rw [List.map_map]; rfl
    unfold cSum
    dsimp only
    rw [lview_lst]
    dsimp only
    rw [em, ints_at]
    rfl
theorem worked_run (ne : Ne3 a e f) (A : At st a e f L dr) (hd : d = "left" ∨ d = "right") (hc : ∀ c ∈ cs, c.ok) (hz : cs.length ≤ 320) (ht : tks cs ≤ row.length) (z3 : row.length ≤ 320) (z1 : L.length ≤ 200000) (z2 : dr.length ≤ 190000) :
    ∃ st', m_worked [world row a b e f, .str d, .lst (cs.map cW)] st = .ok (world (wkd d cs row L dr).af.flatten a b e f) st' ∧ At st' a e f (wkd d cs row L dr).L (wkd d cs row L dr).dr ∧ st.length ≤ st'.length ∧ ∀ n, n < st.length → n ≠ a → n ≠ e → n ≠ f → st'[n]? = st[n]? := by
  have al := dcell_lt A.la
  have el := lcell_lt A.le
  obtain ⟨kvs, q1, q2⟩ := A.lf
  have fl := kcell_lt q1
  have sameL : ∀ {x y : Store} {n : Nat}, x[n]? = y[n]? → lcell x n = lcell y n := fun q => by unfold lcell; rw [q]
  have sameD : ∀ {x y : Store} {n : Nat}, x[n]? = y[n]? → dcell x n = dcell y n := fun q => by unfold dcell; rw [q]
  have sameK : ∀ {x y : Store} {n : Nat}, x[n]? = y[n]? → kcell x n = kcell y n := fun q => by unfold kcell; rw [q]
  -- the columns behind the line
  generalize hg : st.length = g
  have ln : ∀ st, cLen [.lst (cs.map cW)] st = .ok (.int (cs.length : Int)) st := fun st => by rw [cLen_at (w := .lst (cs.map cW)) rfl, List.length_map]
  let afW : List W := cs.map fun _ => W.lst []
  let E1 (o8 o11 o12 : Option W) : Env := [some (world row a b e f), some (.str d), some (.lst (cs.map cW)), some (.lst (row.map nW)), some (.cell a), some (.cell b), some (.cell e), some (.cell f), o8, none, none, o11, o12, none, none, none, none]
  let sW : W := .lst ((List.range cs.length).map fun i => W.int (tks (cs.take i)))
  have s1 : sAsg (gLi (gsCons (gN 3) (gsCons (gN 4) (gsCons (gN 5) (gsCons (gN 6) (gsCons (gN 7) gsNil)))))) (dVar 0) [some (world row a b e f), some (.str d), some (.lst (cs.map cW)), none, none, none, none, none, none, none, none, none, none, none, none, none, none] st = .nx (E1 none none none) st := sAsg_at (rV rfl) rfl
  have s3 : sSet 11 (dCell (dLc (iL (dVar 2)) (gN 9) tYesW (dPure (dLst dNil)) [9])) (E1 (some sW) none none) st = .nx (E1 (some sW) (some (.cell g)) none) (st ++ [C.lst afW]) := by
    rw [← hg]
    refine sSet_at (rCell (rLc (rList (rV rfl)) ?_))
    exact (lc_calm True.intro (e2 := fun c : Cmd => (E1 (some sW) none none).set 9 (some (cW c))) (f := fun _ => W.lst []) cs [] (fun c hx => ⟨rfl, rfl, rPure (rLst rNil two0)⟩) (by simp; omega)).trans (by rw [List.nil_append])
  have s4 : sSet 12 (dCell (dListR (dCallB cLen (dCons (dVar 2) dNil)))) (E1 (some sW) (some (.cell g)) none) (st ++ [C.lst afW]) = .nx (E1 (some sW) (some (.cell g)) (some (.cell (g + 1)))) (st ++ [C.lst afW, C.lst (rngW 0 cs.length)]) := by
    have q := sSet_at (i := 12) (rCell (rListR (n := cs.length) (rCallB (rCons (rV (env := E1 (some sW) (some (.cell g)) none) (st := st ++ [C.lst afW]) (i := 2) rfl) rNil) (ln _)) (sm_nat (by omega)) (n24 (by omega))))
    rw [List.length_append, hg, List.append_assoc] at q
    exact q
  -- the order
  have s5 : ∃ st3 : Store, (sIf (dB (dEq (dVar 1) (dC (.str "left")))) (sDrop (dBM0 tyL mReverse (dVar 12))) sNil) (E1 (some sW) (some (.cell g)) (some (.cell (g + 1)))) (st ++ [C.lst afW, C.lst (rngW 0 cs.length)]) = .nx (E1 (some sW) (some (.cell g)) (some (.cell (g + 1)))) st3 ∧
      lcell st3 (g + 1) = some ((ordr d cs.length).map fun i : Nat => W.int (i : Int)) ∧ lcell st3 g = some afW ∧ st3.length = g + 2 ∧ ∀ n, n < g → st3[n]? = st[n]? := by
    have c1 : lcell (st ++ [C.lst afW, C.lst (rngW 0 cs.length)]) (g + 1) = some (rngW 0 cs.length) := by
      unfold lcell
      rw [← hg, List.getElem?_append_right (by omega)]
      have : st.length + 1 - st.length = 1 := by omega
      rw [this]
      rfl
    have c0 : lcell (st ++ [C.lst afW, C.lst (rngW 0 cs.length)]) g = some afW := by rw [← hg]; exact lcell_new
    have cl : (st ++ [C.lst afW, C.lst (rngW 0 cs.length)] : Store).length = g + 2 := by rw [List.length_append, hg]; rfl
    have ck : ∀ n, n < g → (st ++ [C.lst afW, C.lst (rngW 0 cs.length)] : Store)[n]? = st[n]? := fun n hn => List.getElem?_append_left (by omega)
    rcases hd with rfl | rfl
    · refine ⟨(st ++ [C.lst afW, C.lst (rngW 0 cs.length)]).set (g + 1) (.lst (rngW 0 cs.length).reverse), sIf_t ((rDe (rV rfl) rC).trans (by rw [decide_eq_true]; rfl)) (sDrop_at (w := .non) ?_), ?_, ?_, by rw [List.length_set, cl], fun n hn => by rw [List.getElem?_set_ne (by omega)]; exact ck n hn⟩
      · unfold dBM0
        rw [rV (w := .cell (g + 1)) rfl, Out.bind_ok]
        rw [tyL_cell c1]
        unfold mReverse
        dsimp only
        rw [c1]
        rfl
      · rw [lcell_set (by rw [cl]; omega), rng_nat]
        unfold ordr
        rw [if_pos rfl, List.map_reverse]
      · rw [lcell_set_ne (by omega), c0]
    · refine ⟨_, sIf_f ((rDe (rV rfl) rC).trans (by rw [decide_eq_false]; decide)) sNil_at, ?_, c0, cl, ck⟩
      rw [c1, rng_nat]
      unfold ordr
      rw [if_neg (by decide)]
  obtain ⟨st3, t5, o1, o2, o3, o4⟩ := s5
  have W0 : WS st3 st3 a e f g ⟨L, dr, cs.map fun _ => []⟩ := ⟨(sameD (o4 a (by omega))).trans A.la, (sameL (o4 e (by omega))).trans A.le, ⟨kvs, (sameK (o4 f (by omega))).trans q1, q2⟩, by rw [o2, List.map_map]; rfl, A.cn, rfl, fun _ _ _ _ _ => rfl⟩
  have lo : (ordr d cs.length).length = cs.length := by unfold ordr; split <;> simp
  have mo : ∀ i ∈ ordr d cs.length, i < cs.length := fun i hi => by
    unfold ordr at hi
    split at hi
    · exact List.mem_range.mp (List.mem_reverse.mp hi)
    · exact List.mem_range.mp hi
  obtain ⟨o9, o10, o13, o14, st4, t6, W1⟩ := wk_loop (b := b) (w := world row a b e f) (d := .str d) (o15 := none) (o16 := none) (h := g + 1) ⟨ne.ae, ne.af, by omega, ne.ef, by omega, by omega⟩ ⟨by omega, by omega, by omega, by omega⟩ o1 hc ht z3 (ordr d cs.length) ⟨L, dr, cs.map fun _ => []⟩ st3 none none none none mo W0 (by rw [List.length_map]) (by rw [lo]; show L.length + _ ≤ _; omega) (by rw [lo]; show dr.length + _ ≤ _; omega)
  have W1 : WS st3 st4 a e f g (wkd d cs row L dr) := W1
  have la : (wkd d cs row L dr).af.length = cs.length := (foldl_af (ordr d cs.length) _).trans (by rw [List.length_map])
  have ls : ∀ xs ∈ (wkd d cs row L dr).af, xs.length ≤ 320 := foldl_afl z3 (ordr d cs.length) _ fun xs hx => by
    obtain ⟨c, _, rfl⟩ := List.mem_map.mp hx
    exact Nat.zero_le _
  obtain ⟨o16, t8⟩ := cat_loop (g := g) (w := world row a b e f) (d := .str d) (cs := cs) (row := row) (a := a) (b := b) (e := e) (f := f) (h := g + 1) (o9 := o9) (o10 := o10) (o13 := o13) (o14 := o14) (wkd d cs row L dr).af [] st4 none _ W1.lg (by
    have := sum_le ls
    show 0 + _ ≤ _
    omega)
  rw [List.nil_append] at t8
  have t7 : sSet 15 (dPure (dLst dNil)) (wEnv (world row a b e f) (.str d) cs row a b e f g (g + 1) o9 o10 o13 o14 none none) st4 = .nx (wEnv (world row a b e f) (.str d) cs row a b e f g (g + 1) o9 o10 o13 o14 (some (.lst [])) none) st4 := sSet_at (rPure (rLst rNil two0))
  refine ⟨st4, body_rt rfl ?_, ⟨W1.la, W1.le, W1.lf, W1.cn⟩, by rw [W1.len, o3]; omega, fun n hn n1 n2 n3 => ?_⟩
  · refine sSeq_at s1 (sSeq_at (sSet_at (starts_run hc (by omega))) (sSeq_at s3 (sSeq_at s4 (sSeq_at t5 (sSeq_at (rFor (rCl (rV rfl) o1) t6) (sSeq_at t7 (sSeq_at (rFor (rCl (rV rfl) W1.lg) t8) ?_)))))))
    exact sRet_at (rPure (rLst (rCons (rV rfl) (rCons (rV rfl) (rCons (rV rfl) (rCons (rV rfl) (rCons (rV rfl) rNil))))) (line_ge (show 5 ≤ 1024 by decide))))
  · rw [W1.fr n n1 n2 n3 (by omega)]
    exact o4 n (by omega)
end
end Sh


set_option maxRecDepth 100000
set_option maxHeartbeats 4000000
/-! crossings -/
namespace Sh
open PySem L2 Evl
variable [Wd]
def dN (n : Nm) : PyData := .tuple [.str n.1, .int (n.2 : Int)]
omit [Wd] in
theorem dat_nW (n : Nm) : dat (nW n) = some (dN n) := rfl
omit [Wd] in
theorem fit2_N (n m : Nm) : fit2 (dN n) (dN m) = true := by rfl
def mnN (o u : Nm) : Nm := if PySem.W.dataLt (dN u) (dN o) = true then u else o
def mxN (o u : Nm) : Nm := if PySem.W.dataLt (dN o) (dN u) = true then u else o
theorem min_run (o u : Nm) (st : Store) : cTwoD (fun d e => PySem.W.dataLt e d) [nW o, nW u] st = .ok (nW (mnN o u)) st := by
  unfold cTwoD
  dsimp only
  rw [dat_nW, dat_nW]
  dsimp only
  rw [if_pos (fit2_N o u)]
  unfold mnN
  split <;> rfl
theorem max_run (o u : Nm) (st : Store) : cTwoD (fun d e => PySem.W.dataLt d e) [nW o, nW u] st = .ok (nW (mxN o u)) st := by
  unfold cTwoD
  dsimp only
  rw [dat_nW, dat_nW]
  dsimp only
  rw [if_pos (fit2_N o u)]
  unfold mxN
  split <;> rfl
/-- a crossing: the two names, the cell of the list, who lay over -/
structure Xc where
  one : Nm
  two : Nm
  at' : Nat
  ov : List Nm
def xE (x : Xc) : W × W := (.tup [nW x.one, nW x.two], .cell x.at')
def pKey (a b : Nm) : NestedKey := .tup [nKey a, nKey b]
omit [Wd] in
theorem nk_pair (a b : Nm) : nkW (.tup [nW a, nW b]) = some (pKey a b) := rfl
theorem nkT_pair (a b : Nm) : nkT (.tup [nW a, nW b]) = some (pKey a b) := rfl
omit [Wd] in
theorem pKey_inj {a b c d : Nm} (h : pKey a b = pKey c d) : a = c ∧ b = d := by
  unfold pKey at h
  injection h with h
  injection h with h1 h
  injection h with h2 _
  exact ⟨nKey_inj h1, nKey_inj h2⟩
def isP (a b : Nm) (x : Xc) : Bool := decide (x.one = a ∧ x.two = b)
omit [Wd] in
theorem isP_key (a b : Nm) (x : Xc) : decide (nkW (xE x).1 = some (pKey a b)) = isP a b x := by
  unfold isP
  by_cases h : x.one = a ∧ x.two = b
  · rw [decide_eq_true h, decide_eq_true (by rw [← h.1, ← h.2]; exact nk_pair _ _)]
  · rw [decide_eq_false h, decide_eq_false (show ¬ nkW (xE x).1 = some (pKey a b) from fun z => h (pKey_inj (Option.some.inj ((nk_pair x.one x.two).symm.trans z))))]
omit [Wd] in
theorem look_pair (a b : Nm) : ∀ X : List Xc, lookW (X.map xE) (pKey a b) = (X.find? (isP a b)).map fun x => W.cell x.at'
  | [] => rfl
  | x :: X => by
    have ih := look_pair a b X
    unfold lookW at ih ⊢
    rw [List.map_cons, List.find?_cons, List.find?_cons, isP_key]
    cases isP a b x with
    | true => rfl
    | false => exact ih
/-- over lay over under, told in the cell c if it is the first time -/
def xadd (X : List Xc) (o u : Nm) (c : Nat) : List Xc := match X.find? (isP (mnN o u) (mxN o u)) with
  | some y => X.map fun x => if x.at' = y.at' then { x with ov := x.ov ++ [o] } else x
  | none => X ++ [Xc.mk (mnN o u) (mxN o u) c [o]]
/-- a name that fits a text -/
def nOk (n : Nm) : Prop := YOk n.1 ∧ n.2 ≤ 200000
structure XAt (st : Store) (g0 b : Nat) (X : List Xc) (k : Nat) : Prop where
  db : dcell st b = some (X.map xE)
  cells : ∀ x ∈ X, lcell st x.at' = some (x.ov.map nW)
  ge : ∀ x ∈ X, g0 ≤ x.at'
  lt : b < g0 ∧ g0 ≤ st.length
  sz : X.length ≤ k ∧ ∀ x ∈ X, x.ov.length ≤ k
  nd : X.Pairwise fun x y => x.at' ≠ y.at' ∧ ¬ (x.one = y.one ∧ x.two = y.two)
  nm : ∀ x ∈ X, nOk x.one ∧ nOk x.two ∧ ∀ n ∈ x.ov, nOk n
  tot : (X.map fun x => x.ov.length).sum ≤ k
omit [Wd] in
theorem mn_or (o u : Nm) : mnN o u = o ∨ mnN o u = u := by
  unfold mnN
  split
  · exact .inr rfl
  · exact .inl rfl
omit [Wd] in
theorem mx_or (o u : Nm) : mxN o u = o ∨ mxN o u = u := by
  unfold mxN
  split
  · exact .inr rfl
  · exact .inl rfl
omit [Wd] in
theorem sum_bump (o : Nm) (c : Nat) : ∀ {X : List Xc}, (X.Pairwise fun x y => x.at' ≠ y.at') → ((X.map fun x => if x.at' = c then { x with ov := x.ov ++ [o] } else x).map fun x => x.ov.length).sum ≤ (X.map fun x => x.ov.length).sum + 1
  | [], _ => Nat.zero_le _
  | x :: X, h => by
    rw [List.pairwise_cons] at h
    by_cases e : x.at' = c
    · have same : (X.map fun x => if x.at' = c then { x with ov := x.ov ++ [o] } else x) = X := by
        conv => rhs; rw [← List.map_id X]
        refine List.map_congr_left fun y hy => ?_
        exact if_neg fun z => h.1 y hy (e.trans z.symm)
      rw [List.map_cons, same, if_pos e, List.map_cons, List.sum_cons, List.map_cons, List.sum_cons]
      show (x.ov ++ [o]).length + _ ≤ _
      rw [List.length_append, List.length_singleton]
      omega
    · have ih := sum_bump o c h.2
      rw [List.map_cons, if_neg e, List.map_cons, List.sum_cons, List.map_cons, List.sum_cons]
      omega
theorem body_nx {ws : List W} {st st1 : Store} {n tot : Nat} {s : S} {env1 : Env} (hl : ws.length = n) (h : s (ws.map some ++ List.replicate (tot - n) none) st = .nx env1 st1) : dBody n tot s ws st = .ok .non st1 := by
  unfold dBody
  rw [if_pos hl, h]
theorem crossed_run {st : Store} {g0 b : Nat} {X : List Xc} {k : Nat} (A : XAt st g0 b X k) (hk : k ≤ 100000) (o u : Nm) (ho : nOk o) (hu : nOk u) :
    ∃ st', m_crossed [.cell b, nW o, nW u] st = .ok .non st' ∧ XAt st' g0 b (xadd X o u st.length) (k + 1) ∧ st.length ≤ st'.length ∧ ∀ n, n < g0 → n ≠ b → st'[n]? = st[n]? := by
  have bl := dcell_lt A.db
  have z1 := A.sz.1
  have key : ∀ s : Store, dTup (dCons (dCallB (cTwoD fun d e => PySem.W.dataLt e d) (dCons (dVar 1) (dCons (dVar 2) dNil))) (dCons (dCallB (cTwoD fun d e => PySem.W.dataLt d e) (dCons (dVar 1) (dCons (dVar 2) dNil))) dNil)) [some (.cell b), some (nW o), some (nW u)] s = .ok (.tup [nW (mnN o u), nW (mxN o u)]) s := fun s =>
    rTup (rCons (rCallB (rCons (rV rfl) (rCons (rV rfl) rNil)) (min_run o u s)) (rCons (rCallB (rCons (rV rfl) (rCons (rV rfl) rNil)) (max_run o u s)) rNil)) (line_ge (show 2 ≤ 1024 by decide))
  have arg : dCons (dTup (dCons (dCallB (cTwoD fun d e => PySem.W.dataLt e d) (dCons (dVar 1) (dCons (dVar 2) dNil))) (dCons (dCallB (cTwoD fun d e => PySem.W.dataLt d e) (dCons (dVar 1) (dCons (dVar 2) dNil))) dNil))) (dCons (dCell (dLst dNil)) dNil) [some (.cell b), some (nW o), some (nW u)] st =
      .ok [.tup [nW (mnN o u), nW (mxN o u)], .cell st.length] (st ++ [C.lst []]) := rCons (key st) (rCons (rCell (rLst rNil two0)) rNil)
  have d1 : dcell (st ++ [C.lst []]) b = some (X.map xE) := by
    have := A.db
    unfold dcell at this ⊢
    rw [List.getElem?_append_left bl]
    exact this
  have dd : ∀ r s, (match lookW (X.map xE) (pKey (mnN o u) (mxN o u)) with
      | some w => Out.ok w (st ++ [C.lst []])
      | none => .ok (.cell st.length) ((st ++ [C.lst []]).set b (.dN (putW (X.map xE) (pKey (mnN o u) (mxN o u)) (.tup [nW (mnN o u), nW (mxN o u)]) (.cell st.length))))) = Out.ok r s →
      dDefN (dVar 0) (dCons (dTup (dCons (dCallB (cTwoD fun d e => PySem.W.dataLt e d) (dCons (dVar 1) (dCons (dVar 2) dNil))) (dCons (dCallB (cTwoD fun d e => PySem.W.dataLt d e) (dCons (dVar 1) (dCons (dVar 2) dNil))) dNil))) (dCons (dCell (dLst dNil)) dNil)) [some (.cell b), some (nW o), some (nW u)] st = .ok r s := fun r s h => by
    unfold dDefN
    rw [rV (w := .cell b) rfl, Out.bind_ok]
    dsimp only
    rw [A.db]
    dsimp only
    rw [arg, Out.bind_ok]
    dsimp only
    rw [d1, nkT_pair]
    dsimp only
    rw [if_pos (big_lt (by rw [List.length_map]; omega))]
    exact h
  have cell1 : ∀ n, n < st.length → (st ++ [C.lst []])[n]? = st[n]? := fun n hn => List.getElem?_append_left hn
  have lc1 : ∀ x ∈ X, lcell (st ++ [C.lst []]) x.at' = some (x.ov.map nW) := fun x hx => by rw [lcell_app (lcell_lt (A.cells x hx))]; exact A.cells x hx
  cases q : X.find? (isP (mnN o u) (mxN o u)) with
  | none =>
    have q2 : lookW (X.map xE) (pKey (mnN o u) (mxN o u)) = none := by rw [look_pair, q]; rfl
    have pn : putW (X.map xE) (pKey (mnN o u) (mxN o u)) (.tup [nW (mnN o u), nW (mxN o u)]) (.cell st.length) = (X ++ [Xc.mk (mnN o u) (mxN o u) st.length [o]]).map xE := by
      unfold putW
      rw [q2, if_neg (by decide), List.map_append]
      rfl
    have hn : lcell ((st ++ [C.lst []]).set b (.dN ((X ++ [Xc.mk (mnN o u) (mxN o u) st.length [o]]).map xE))) st.length = some [] := by rw [lcell_set_ne (by omega)]; exact lcell_new
    have e : xadd X o u st.length = X ++ [Xc.mk (mnN o u) (mxN o u) st.length [o]] := by unfold xadd; rw [q]
    rw [e]
    have l2 : (((st ++ [C.lst []]).set b (.dN ((X ++ [Xc.mk (mnN o u) (mxN o u) st.length [o]]).map xE))).set st.length (.lst ([] ++ [nW o]))).length = st.length + 1 := by rw [List.length_set, List.length_set, List.length_append]; rfl
    refine ⟨((st ++ [C.lst []]).set b (.dN ((X ++ [Xc.mk (mnN o u) (mxN o u) st.length [o]]).map xE))).set st.length (.lst ([] ++ [nW o])), ?_, ⟨?_, fun x hx => ?_, fun x hx => ?_, ⟨A.lt.1, by rw [l2]; have := A.lt.2; omega⟩, ⟨?_, fun x hx => ?_⟩, ?_, fun x hx => ?_, ?_⟩, by rw [l2]; omega, fun n n1 n2 => ?_⟩
    · refine body_nx rfl (sDrop_at (rBM (dd _ _ (by rw [q2, pn])) (tyL_cell hn) (rCons (rV rfl) rNil) (app_at hn (by decide))))
    · rw [dcell_set_ne (by omega), dcell_set (by rw [List.length_append]; omega)]
    · rcases List.mem_append.mp hx with hx | hx
      · have xl := lcell_lt (A.cells x hx)
        have xb := A.ge x hx
        have := A.lt.1
        rw [lcell_set_ne (by omega), lcell_set_ne (by omega)]
        exact lc1 x hx
      · rw [List.mem_singleton.mp hx, lcell_set (by rw [List.length_set, List.length_append]; exact Nat.lt_succ_self _)]
        rfl
    · rcases List.mem_append.mp hx with hx | hx
      · exact A.ge x hx
      · rw [List.mem_singleton.mp hx]; exact A.lt.2
    · rw [List.length_append]; exact Nat.add_le_add_right z1 1
    · rcases List.mem_append.mp hx with hx | hx
      · exact Nat.le_succ_of_le (A.sz.2 x hx)
      · rw [List.mem_singleton.mp hx]; exact Nat.succ_le_succ (Nat.zero_le _)
    · refine List.pairwise_append.mpr ⟨A.nd, List.pairwise_singleton _ _, fun x hx y hy => ?_⟩
      rw [List.mem_singleton.mp hy]
      refine ⟨Nat.ne_of_lt (lcell_lt (A.cells x hx)), fun z => ?_⟩
      have := List.find?_eq_none.mp q x hx
      exact this (decide_eq_true z)
    · rcases List.mem_append.mp hx with hx | hx
      · exact A.nm x hx
      · rw [List.mem_singleton.mp hx]
        exact ⟨(mn_or o u).elim (fun e => by show nOk (mnN o u); rw [e]; exact ho) fun e => by show nOk (mnN o u); rw [e]; exact hu, (mx_or o u).elim (fun e => by show nOk (mxN o u); rw [e]; exact ho) fun e => by show nOk (mxN o u); rw [e]; exact hu, fun n hn => by rw [List.mem_singleton.mp hn]; exact ho⟩
    · rw [List.map_append, List.sum_append]
      exact Nat.add_le_add_right A.tot 1
    · have := A.lt.2
      rw [List.getElem?_set_ne (by omega), List.getElem?_set_ne (Ne.symm n2)]
      exact cell1 n (by omega)
  | some y =>
    have hy := List.mem_of_find?_eq_some q
    have q2 : lookW (X.map xE) (pKey (mnN o u) (mxN o u)) = some (.cell y.at') := by rw [look_pair, q]; rfl
    have hn := lc1 y hy
    have yl := lcell_lt (A.cells y hy)
    have yg := A.ge y hy
    have e : xadd X o u st.length = X.map fun x => if x.at' = y.at' then { x with ov := x.ov ++ [o] } else x := by unfold xadd; rw [q]
    rw [e]
    have fx : ∀ x ∈ X, x.at' = y.at' → x.ov.map nW = y.ov.map nW := fun x hx z => by
      have a := A.cells x hx
      rw [z, A.cells y hy] at a
      exact (Option.some.inj a).symm
    refine ⟨(st ++ [C.lst []]).set y.at' (.lst (y.ov.map nW ++ [nW o])), ?_, ⟨?_, fun x' hx' => ?_, fun x' hx' => ?_, ⟨A.lt.1, by rw [List.length_set, List.length_append]; exact Nat.le_succ_of_le A.lt.2⟩, ⟨?_, fun x' hx' => ?_⟩, ?_, fun x' hx' => ?_, ?_⟩, by rw [List.length_set, List.length_append]; exact Nat.le_succ _, fun n n1 n2 => ?_⟩
    · refine body_nx rfl (sDrop_at (rBM (dd _ _ (by rw [q2])) (tyL_cell hn) (rCons (rV rfl) rNil) (app_at hn (by rw [List.length_map]; have := A.sz.2 y hy; omega))))
    · have := A.lt.1
      rw [dcell_set_ne (by omega), d1, List.map_map]
      congr 1
      refine List.map_congr_left fun x _ => ?_
      show xE x = xE (if _ then _ else _)
      split <;> rfl
    · obtain ⟨x, hx, rfl⟩ := List.mem_map.mp hx'
      by_cases z : x.at' = y.at'
      · rw [if_pos z]
        show lcell _ x.at' = some ((x.ov ++ [o]).map nW)
        rw [z, lcell_set (by rw [List.length_append]; omega), List.map_append, fx x hx z]
        rfl
      · rw [if_neg z, lcell_set_ne (Ne.symm z)]
        exact lc1 x hx
    · obtain ⟨x, hx, rfl⟩ := List.mem_map.mp hx'
      have := A.ge x hx
      split <;> exact this
    · rw [List.length_map]; omega
    · obtain ⟨x, hx, rfl⟩ := List.mem_map.mp hx'
      have := A.sz.2 x hx
      split
      · show (x.ov ++ [o]).length ≤ _
        rw [List.length_append]
        exact Nat.succ_le_succ this
      · omega
    · refine List.pairwise_map.mpr (A.nd.imp fun {x z} h => ?_)
      split <;> split <;> exact h
    · obtain ⟨x, hx, rfl⟩ := List.mem_map.mp hx'
      obtain ⟨n1, n2, n3⟩ := A.nm x hx
      split
      · refine ⟨n1, n2, fun n hn => ?_⟩
        rcases List.mem_append.mp hn with hn | hn
        · exact n3 n hn
        · rw [List.mem_singleton.mp hn]; exact ho
      · exact ⟨n1, n2, n3⟩
    · exact Nat.le_trans (sum_bump o y.at' (A.nd.imp fun h => h.1)) (Nat.add_le_add_right A.tot 1)
    · rw [List.getElem?_set_ne (by omega)]
      exact cell1 n (by have := A.lt.2; omega)
end Sh


set_option maxRecDepth 100000
set_option maxHeartbeats 4000000
/-! a line of exchanges -/
namespace Sh
open PySem L2 Evl
variable [Wd]
def swp (row : List Nm) (i : Nat) : List Nm := match row[i]?, row[i + 1]? with
  | some x, some y => row.take i ++ [y, x] ++ row.drop (i + 2)
  | _, _ => row
omit [Wd] in
theorem swp_at {row : List Nm} {i : Nat} (h : i + 1 < row.length) : swp row i = row.take i ++ [row[i + 1], row[i]] ++ row.drop (i + 2) := by
  unfold swp
  rw [List.getElem?_eq_getElem (show i < row.length by omega), List.getElem?_eq_getElem h]
omit [Wd] in
theorem swp_perm {row : List Nm} {i : Nat} (h : i + 1 < row.length) : (swp row i).Perm row := by
  rw [swp_at h]
  have e : row = row.take i ++ ([row[i], row[i + 1]] ++ row.drop (i + 2)) := by
    have e2 : row.drop i = row[i] :: row[i + 1] :: row.drop (i + 2) := by rw [List.drop_eq_getElem_cons (by omega), List.drop_eq_getElem_cons h]
    rw [show [row[i], row[i + 1]] ++ row.drop (i + 2) = row.drop i from e2.symm, List.take_append_drop]
  have p : (row.take i ++ ([row[i + 1], row[i]] ++ row.drop (i + 2))).Perm (row.take i ++ ([row[i], row[i + 1]] ++ row.drop (i + 2))) := (List.Perm.swap _ _ _).append_left _
  rw [List.append_assoc]
  exact p.trans (List.Perm.of_eq e.symm)
noncomputable abbrev mvBody : S :=
  (sSeq (sSet 4 (dOp oIx (dVar 2) (dOp oIx (dVar 3) (dC (.int 0)))))
  (sSeq (sSet 5 (dOp oIx (dVar 2) (dAdd (dOp oIx (dVar 3) (dC (.int 0))) (dC (.int 1)))))
  (sSeq (sIf (dB (dEq (dOp oIx (dVar 3) (dC (.int 1))) (dC (.str "left"))))
  (sDrop (dCall m_crossed (dCons (dOp oIx (dVar 0) (dC (.int 2))) (dCons (dVar 4) (dCons (dVar 5) dNil)))))
  (sDrop (dCall m_crossed (dCons (dOp oIx (dVar 0) (dC (.int 2))) (dCons (dVar 5) (dCons (dVar 4) dNil))))))
  (sSet 2 (dPure (dOpF oCat (dPure (dOpF oCat (dPure (dSl (dVar 2) oNone (oSome (dOp oIx (dVar 3) (dC (.int 0)))))) (dPure (dLst (dCons (dVar 5) (dCons (dVar 4) dNil)))))) (dPure (dSl (dVar 2) (oSome (dAdd (dOp oIx (dVar 3) (dC (.int 0))) (dC (.int 2)))) oNone))))))))
section
variable {st : Store} {g0 a b e f k : Nat} {X : List Xc} {w0 : List Nm}
abbrev mEnv (w0 : List Nm) (a b e f : Nat) (ex : W) (row : List Nm) (o3 o4 o5 : Option W) : Env := [some (world w0 a b e f), some ex, some (.lst (row.map nW)), o3, o4, o5]
theorem mv_turn {ex : W} {row : List Nm} {x : Int × Str} {o4 o5 : Option W} (A : XAt st g0 b X k) (hk : k ≤ 100000) (h0 : 0 ≤ x.1) (h1 : x.1 + 1 < row.length) (hn : ∀ n ∈ row, nOk n) (z : row.length ≤ 1000) :
    ∃ (o4' o5' : Option W) (X' : List Xc) (st' : Store), mvBody (mEnv w0 a b e f ex row (some (eW x)) o4 o5) st = .nx (mEnv w0 a b e f ex (swp row x.1.toNat) (some (eW x)) o4' o5') st' ∧ XAt st' g0 b X' (k + 1) ∧ st.length ≤ st'.length ∧ ∀ n, n < g0 → n ≠ b → st'[n]? = st[n]? := by
  obtain ⟨i, hi⟩ : ∃ i : Nat, x.1 = i := ⟨x.1.toNat, by omega⟩
  have il : i + 1 < row.length := by omega
  have i0 : ∀ (s : Store) (r : List Nm) (o4 o5 : Option W), dOp oIx (dVar 3) (dC (.int 0)) (mEnv w0 a b e f ex r (some (eW x)) o4 o5) s = .ok (.int (i : Int)) s := fun s r o4 o5 => rOp (x := eW x) (rV rfl) rC (by rw [← hi]; exact ix_at (xs := [.int x.1, .str x.2]) rfl (by decide) rfl)
  have i1 : ∀ (s : Store) (r : List Nm) (o4 o5 : Option W), dOp oIx (dVar 3) (dC (.int 1)) (mEnv w0 a b e f ex r (some (eW x)) o4 o5) s = .ok (.str x.2) s := fun s r o4 o5 => rOp (x := eW x) (rV rfl) rC (ix_at (xs := [.int x.1, .str x.2]) rfl (by decide) rfl)
  have one : sSet 4 (dOp oIx (dVar 2) (dOp oIx (dVar 3) (dC (.int 0)))) (mEnv w0 a b e f ex row (some (eW x)) o4 o5) st = .nx (mEnv w0 a b e f ex row (some (eW x)) (some (nW row[i])) o5) st :=
    sSet_at (rOp (rV rfl) (i0 _ _ _ _) (ix_at rfl (Int.natCast_nonneg i) (by rw [Int.toNat_natCast, List.getElem?_map, List.getElem?_eq_getElem (by omega)]; rfl)))
  have two : sSet 5 (dOp oIx (dVar 2) (dAdd (dOp oIx (dVar 3) (dC (.int 0))) (dC (.int 1)))) (mEnv w0 a b e f ex row (some (eW x)) (some (nW row[i])) o5) st = .nx (mEnv w0 a b e f ex row (some (eW x)) (some (nW row[i])) (some (nW row[i + 1]))) st :=
    sSet_at (rOp (y := .int ((i + 1 : Nat) : Int)) (rV rfl) (rOp (i0 _ _ _ _) rC rfl) (ix_at rfl (Int.natCast_nonneg _) (by rw [Int.toNat_natCast, List.getElem?_map, List.getElem?_eq_getElem il]; rfl)))
  have cross : ∃ (X' : List Xc) (st' : Store), (sIf (dB (dEq (dOp oIx (dVar 3) (dC (.int 1))) (dC (.str "left"))))
      (sDrop (dCall m_crossed (dCons (dOp oIx (dVar 0) (dC (.int 2))) (dCons (dVar 4) (dCons (dVar 5) dNil)))))
      (sDrop (dCall m_crossed (dCons (dOp oIx (dVar 0) (dC (.int 2))) (dCons (dVar 5) (dCons (dVar 4) dNil)))))) (mEnv w0 a b e f ex row (some (eW x)) (some (nW row[i])) (some (nW row[i + 1]))) st =
        .nx (mEnv w0 a b e f ex row (some (eW x)) (some (nW row[i])) (some (nW row[i + 1]))) st' ∧ XAt st' g0 b X' (k + 1) ∧ st.length ≤ st'.length ∧ ∀ n, n < g0 → n ≠ b → st'[n]? = st[n]? := by
    have c2 : ∀ s : Store, dOp oIx (dVar 0) (dC (.int 2)) (mEnv w0 a b e f ex row (some (eW x)) (some (nW row[i])) (some (nW row[i + 1]))) s = .ok (.cell b) s := fun s => rOp (x := world w0 a b e f) (rV rfl) rC (ix_at rfl (by decide) rfl)
    by_cases h : x.2 = "left"
    · obtain ⟨st', q1, q2⟩ := crossed_run A hk row[i] row[i + 1] (hn _ (List.getElem_mem _)) (hn _ (List.getElem_mem _))
      exact ⟨_, st', sIf_t ((rDe (i1 _ _ _ _) rC).trans (by rw [decide_eq_true h])) (sDrop_at (rCall (rCons (c2 _) (rCons (rV rfl) (rCons (rV rfl) rNil))) q1)), q2⟩
    · obtain ⟨st', q1, q2⟩ := crossed_run A hk row[i + 1] row[i] (hn _ (List.getElem_mem _)) (hn _ (List.getElem_mem _))
      exact ⟨_, st', sIf_f ((rDe (i1 _ _ _ _) rC).trans (by rw [decide_eq_false h])) (sDrop_at (rCall (rCons (c2 _) (rCons (rV rfl) (rCons (rV rfl) rNil))) q1)), q2⟩
  obtain ⟨X', st', t, q⟩ := cross
  refine ⟨some (nW row[i]), some (nW row[i + 1]), X', st', ?_, q⟩
  refine sSeq_at one (sSeq_at two (sSeq_at t ?_))
  rw [hi, Int.toNat_natCast]
  have e : (swp row i).map nW = ((row.map nW).take i ++ [nW row[i + 1], nW row[i]]) ++ (row.map nW).drop (i + 2) := by rw [swp_at il, List.map_append, List.map_append, List.map_take, List.map_drop]; rfl
  show _ = SOut.nx [_, _, some (.lst ((swp row i).map nW)), _, _, _] _
  rw [e]
  have l1 : ((row.map nW).take i ++ [nW row[i + 1], nW row[i]]).length + ((row.map nW).drop (i + 2)).length ≤ 1000000 := by rw [List.length_append, List.length_take, List.length_drop, List.length_map]; show _ + 2 + _ ≤ _; omega
  refine sSet_at (rPure (rOpF (st1 := st') (st2 := st') (rPure (rOpF (st1 := st') (st2 := st') (rPure (xs := (row.map nW).take i) ?_) (rPure (rLst (rCons (rV rfl) (rCons (rV rfl) rNil)) (line_ge (show 2 ≤ 1024 by decide)))) (cat_at rfl rfl (by rw [List.length_take, List.length_map]; show _ + 2 ≤ _; omega)))) (rPure (xs := (row.map nW).drop (i + 2)) ?_) (cat_at rfl rfl l1)))
  · rw [rSl (w := .lst (row.map nW)) (l := none) (h := some (i : Int)) (rV rfl) rNone (rSome (i0 _ _ _ _)) rfl, cut_fst (by rw [List.length_map]; omega)]
  · rw [rSl (w := .lst (row.map nW)) (l := some ((i + 2 : Nat) : Int)) (h := none) (rV rfl) (rSome (rOp (i0 _ _ _ _) rC rfl)) rNone rfl, cut_lst (by rw [List.length_map]; omega)]
omit [Wd] in
theorem swp_len {row : List Nm} {i : Nat} (h : i + 1 < row.length) : (swp row i).length = row.length := (swp_perm h).length_eq
theorem mv_loop {ex : W} : ∀ (xs : List (Int × Str)) (row : List Nm) (st : Store) (X : List Xc) (k : Nat) (o3 o4 o5 : Option W), XAt st g0 b X k → k + xs.length ≤ 100000 → (∀ x ∈ xs, 0 ≤ x.1 ∧ x.1 + 1 < row.length) → (∀ n ∈ row, nOk n) → row.length ≤ 1000 →
    ∃ (o3' o4' o5' : Option W) (X' : List Xc) (st' : Store) (row' : List Nm), forGo (fun _ => True) (gN 3) mvBody (xs.map eW) (mEnv w0 a b e f ex row o3 o4 o5) st = .nx (mEnv w0 a b e f ex row' o3' o4' o5') st' ∧ row'.Perm row ∧ XAt st' g0 b X' (k + xs.length) ∧ st.length ≤ st'.length ∧ ∀ n, n < g0 → n ≠ b → st'[n]? = st[n]?
  | [], row, st, X, k, o3, o4, o5, A, hk, hx, hn, z => ⟨o3, o4, o5, X, st, row, forGo_nil True.intro, List.Perm.refl _, A, Nat.le_refl _, fun _ _ _ => rfl⟩
  | x :: xs, row, st, X, k, o3, o4, o5, A, hk, hx, hn, z => by
    rw [List.length_cons] at hk
    obtain ⟨h0, h1⟩ := hx x List.mem_cons_self
    have il : x.1.toNat + 1 < row.length := by omega
    obtain ⟨p4, p5, X1, st1, e1, A1, l1, f1⟩ := mv_turn (w0 := w0) (a := a) (e := e) (f := f) (ex := ex) (o4 := o4) (o5 := o5) A (by omega) h0 h1 hn z
    obtain ⟨q3, q4, q5, X2, st2, row2, e2, p2, A2, l2, f2⟩ := mv_loop (ex := ex) xs (swp row x.1.toNat) st1 X1 (k + 1) (some (eW x)) p4 p5 A1 (by omega) (fun y hy => by rw [swp_len il]; exact hx y (List.mem_cons_of_mem _ hy)) (fun n h => hn n ((swp_perm il).mem_iff.mp h)) (by rw [swp_len il]; exact z)
    refine ⟨q3, q4, q5, X2, st2, row2, ?_, p2.trans (swp_perm il), by rw [List.length_cons, show k + (xs.length + 1) = k + 1 + xs.length by omega]; exact A2, Nat.le_trans l1 l2, fun n n1 n2 => (f2 n n1 n2).trans (f1 n n1 n2)⟩
    rw [List.map_cons, forGo_nx (ok := fun _ => True) (env1 := mEnv w0 a b e f ex row (some (eW x)) o4 o5) (st1 := st) True.intro rfl e1]
    exact e2
theorem moved_run {row : List Nm} {xs : List (Int × Str)} (A : XAt st g0 b X k) (hk : k + xs.length ≤ 100000) (hx : ∀ x ∈ xs, 0 ≤ x.1 ∧ x.1 + 1 < row.length) (hn : ∀ n ∈ row, nOk n) (z : row.length ≤ 1000) :
    ∃ (row' : List Nm) (X' : List Xc) (st' : Store), m_moved [world row a b e f, .lst (xs.map eW)] st = .ok (world row' a b e f) st' ∧ row'.Perm row ∧ XAt st' g0 b X' (k + xs.length) ∧ st.length ≤ st'.length ∧ ∀ n, n < g0 → n ≠ b → st'[n]? = st[n]? := by
  obtain ⟨o3, o4, o5, X', st', row', e1, p, A', l, fr⟩ := mv_loop (w0 := row) (a := a) (e := e) (f := f) (ex := .lst (xs.map eW)) xs row st X k none none none A hk hx hn z
  refine ⟨row', X', st', body_rt rfl ?_, p, A', l, fr⟩
  have s1 : sSet 2 (dPure (dCallF cList (dCons (dOp oIx (dVar 0) (dC (.int 0))) dNil))) [some (world row a b e f), some (.lst (xs.map eW)), none, none, none, none] st = .nx (mEnv row a b e f (.lst (xs.map eW)) row none none none) st :=
    sSet_at (rPure (rCallF (rCons (w := .lst (row.map nW)) (rOp (x := world row a b e f) (rV rfl) rC (ix_at rfl (by decide) rfl)) rNil) rfl))
  refine sSeq_at s1 (sSeq_at (rFor (rList (rV rfl)) e1) (sRet_at (rPure (rOpF (st1 := st') (st2 := st') (rPure (rLst (rCons (rV rfl) rNil) (line_ge (show 1 ≤ 1024 by decide)))) (rPure (xs := [.cell a, .cell b, .cell e, .cell f]) ?_) (cat_at (xs := [.lst (row'.map nW)]) (ys := [.cell a, .cell b, .cell e, .cell f]) rfl rfl (show 1 + 4 ≤ 1000000 by decide))))))
  have q := rSl (d := dVar 0) (env := mEnv row a b e f (.lst (xs.map eW)) row' o3 o4 o5) (st := st') (lo := oSome (dC (.int 1))) (hi := oNone) (w := world row a b e f) (l := some ((1 : Nat) : Int)) (h := none) (rV rfl) (rSome rC) rNone rfl
  rw [cut_lst (show 1 ≤ 5 by decide)] at q
  exact q
end
end Sh


set_option maxRecDepth 100000
set_option maxHeartbeats 4000000
/-! what stays true of a chart's names -/
namespace Sh
open PySem L2 Evl
/-- what a loop was drawn through, from front to back -/
def dep (l : Lp) : List Nm := match l.2.1 with
  | .join _ lean _ _ => if lean = "right" then l.2.2.reverse else l.2.2
  | .two k _ => if k = "tuck" then [] else l.2.2
  | .one _ => l.2.2
structure Wi (row : List Nm) (L : List Lp) (dr : List Nm) : Prop where
  perm : ∀ a : Nm, (row ++ dr ++ L.flatMap dep).count a = (L.map (·.1)).count a
  nd : (L.map (·.1)).Nodup
  old : ∀ i l, L[i]? = some l → ∀ n ∈ dep l, n ∈ (L.take i).map (·.1)
structure Pi' (row : List Nm) (cs : List Cmd) (is : List Nat) (p : Pr) : Prop where
  perm : ∀ a : Nm, ((is.map (seg row cs)).flatten ++ p.af.flatten ++ p.dr ++ p.L.flatMap dep).count a = (p.L.map (·.1)).count a
  nd : (p.L.map (·.1)).Nodup
  old : ∀ i l, p.L[i]? = some l → ∀ n ∈ dep l, n ∈ (p.L.take i).map (·.1)
  cn : Cnt p.L
  em : ∀ i ∈ is, p.af[i]? = some []
  ni : is.Nodup
theorem count_set (a : Nm) (xs : List Nm) : ∀ {af : List (List Nm)} {i : Nat}, af[i]? = some [] → (af.set i xs).flatten.count a = af.flatten.count a + xs.count a
  | [], _, h => by cases h
  | y :: af, 0, h => by
    cases h
    rw [List.set_cons_zero, List.flatten_cons, List.flatten_cons, List.count_append, List.count_append, List.count_nil]
    omega
  | y :: af, i + 1, h => by
    rw [List.set_cons_succ, List.flatten_cons, List.flatten_cons, List.count_append, List.count_append, count_set a xs (af := af) (i := i) h]
    omega
theorem old_snoc {L : List Lp} {l : Lp} (h : ∀ i l, L[i]? = some l → ∀ n ∈ dep l, n ∈ (L.take i).map (·.1)) (hl : ∀ n ∈ dep l, n ∈ L.map (·.1)) : ∀ i l', (L ++ [l])[i]? = some l' → ∀ n ∈ dep l', n ∈ ((L ++ [l]).take i).map (·.1) := by
  intro i l' hi n hn
  by_cases q : i < L.length
  · rw [List.getElem?_append_left q] at hi
    rw [List.take_append_of_le_length (Nat.le_of_lt q)]
    exact h i l' hi n hn
  · rw [List.getElem?_append_right (by omega)] at hi
    have e : i - L.length = 0 := by
      have := (List.getElem?_eq_some_iff.mp hi).1
      simp at this
      omega
    rw [e] at hi
    have hl' : l = l' := by simpa using hi
    subst hl'
    have e2 : i = L.length := by omega
    rw [e2, List.take_left]
    exact hl n hn
theorem dep_count {l : Lp} (hc : l.2.1.ok) (h1 : ∀ k, l.2.1 ≠ .one k) (h : l.2.1.tks = 0 → l.2.2 = []) (a : Nm) : (dep l).count a = l.2.2.count a := by
  obtain ⟨n, c, xs⟩ := l
  cases c with
  | one k => exact absurd rfl (h1 k)
  | two k y =>
    show (if k = "tuck" then [] else xs).count a = xs.count a
    by_cases e : k = "tuck"
    · rw [if_pos e]
      have : xs = [] := h (by show (if k = "tuck" then (0 : Int) else 1) = 0; rw [if_pos e])
      rw [this]
    · rw [if_neg e]
  | join m lean side y =>
    show (if lean = "right" then xs.reverse else xs).count a = xs.count a
    split
    · exact List.count_reverse
    · rfl
theorem seg_zero {row : List Nm} {cs : List Cmd} {i : Nat} {c : Cmd} (hi : cs[i]? = some c) (h : c.tks = 0) : seg row cs i = [] := by
  unfold seg
  rw [hi]
  dsimp only
  rw [h]
  rfl
theorem pi_step {row : List Nm} {cs : List Cmd} {i : Nat} {is : List Nat} {p : Pr} (hc : ∀ c ∈ cs, c.ok) (hi : i < cs.length) (P : Pi' row cs (i :: is) p) : Pi' row cs is (stp row cs p i) := by
  have q := List.getElem?_eq_getElem hi
  have okc := hc _ (List.getElem_mem hi)
  have ei := P.em i List.mem_cons_self
  have nin := (List.nodup_cons.mp P.ni).1
  have nis := (List.nodup_cons.mp P.ni).2
  have em' : ∀ xs, ∀ j ∈ is, (p.af.set i xs)[j]? = some [] := fun xs j hj => by
    rw [List.getElem?_set_ne (show i ≠ j from fun e => nin (by rw [e]; exact hj))]
    exact P.em j (List.mem_cons_of_mem _ hj)
  have pm : ∀ a : Nm, (seg row cs i).count a + ((is.map (seg row cs)).flatten.count a + p.af.flatten.count a + p.dr.count a + (p.L.flatMap dep).count a) = (p.L.map (·.1)).count a := fun a => by
    have := P.perm a
    rw [List.map_cons, List.flatten_cons] at this
    simp only [List.count_append] at this
    omega
  have sub : ∀ n ∈ seg row cs i, n ∈ p.L.map (·.1) := fun n hn => by
    have c1 := List.count_pos_iff.mpr hn
    exact List.count_pos_iff.mp (by rw [← pm n]; omega)
  have make : (∀ k, cs[i] ≠ .one k) → stp row cs p i = { L := p.L ++ [((cs[i].yarn, cnt p.L cs[i].yarn), cs[i], seg row cs i)], dr := p.dr, af := p.af.set i [(cs[i].yarn, cnt p.L cs[i].yarn)] } → Pi' row cs is (stp row cs p i) := fun h1 e => by
    have dc := dep_count (l := ((cs[i].yarn, cnt p.L cs[i].yarn), cs[i], seg row cs i)) okc h1 fun z => seg_zero q z
    rw [e]
    refine ⟨fun a => ?_, ?_, old_snoc P.old fun n hn => sub n (List.count_pos_iff.mp (by rw [← dc n]; exact List.count_pos_iff.mpr hn)), P.cn.snoc _ _ _, em' _, nis⟩
    · have := pm a
      show (_ ++ (p.af.set i _).flatten ++ p.dr ++ (p.L ++ [_]).flatMap dep).count a = ((p.L ++ [_]).map _).count a
      rw [List.flatMap_append, List.flatMap_cons, List.flatMap_nil, List.append_nil, List.map_append]
      simp only [List.count_append, count_set a _ ei, dc a, List.map_cons, List.map_nil]
      omega
    · show ((p.L ++ [_]).map _).Nodup
      rw [List.map_append]
      refine List.nodup_append.mpr ⟨P.nd, by simp, fun x hx y hy e => ?_⟩
      subst e
      rw [List.map_cons, List.map_nil, List.mem_singleton] at hy
      exact P.cn.fresh cs[i].yarn (hy ▸ hx)
  cases hcs : cs[i] with
  | one k =>
    by_cases hk : k = "pass"
    · have e : stp row cs p i = { p with af := p.af.set i (seg row cs i) } := by unfold stp; rw [q, hcs]; exact if_pos hk
      rw [e]
      refine ⟨fun a => ?_, P.nd, P.old, P.cn, em' _, nis⟩
      have := pm a
      show (_ ++ (p.af.set i _).flatten ++ p.dr ++ p.L.flatMap dep).count a = _
      simp only [List.count_append, count_set a _ ei]
      omega
    · have e : stp row cs p i = { p with dr := p.dr ++ seg row cs i } := by unfold stp; rw [q, hcs]; exact if_neg hk
      rw [e]
      refine ⟨fun a => ?_, P.nd, P.old, P.cn, fun j hj => P.em j (List.mem_cons_of_mem _ hj), nis⟩
      have := pm a
      show (_ ++ p.af.flatten ++ (p.dr ++ _) ++ p.L.flatMap dep).count a = _
      simp only [List.count_append]
      omega
  | two k y => exact make (fun _ z => by rw [hcs] at z; cases z) (by unfold stp; rw [q, hcs])
  | join m lean side y => exact make (fun _ z => by rw [hcs] at z; cases z) (by unfold stp; rw [q, hcs])
theorem pi_fold {row : List Nm} {cs : List Cmd} (hc : ∀ c ∈ cs, c.ok) : ∀ (is : List Nat) (p : Pr), (∀ i ∈ is, i < cs.length) → Pi' row cs is p → Pi' row cs [] (is.foldl (stp row cs) p)
  | [], _, _, P => P
  | i :: is, p, hi, P => pi_fold hc is _ (fun j hj => hi j (List.mem_cons_of_mem _ hj)) (pi_step hc (hi i List.mem_cons_self) P)
theorem segs_row {row : List Nm} {cs : List Cmd} (hc : ∀ c ∈ cs, c.ok) : ∀ m, m ≤ cs.length → ((List.range m).map (seg row cs)).flatten = row.take (tks (cs.take m)).toNat
  | 0, _ => by
    rw [List.take_zero]
    rfl
  | m + 1, h => by
    have ml : m < cs.length := h
    have q := List.getElem?_eq_getElem ml
    obtain ⟨t0, _⟩ := tks_at hc q
    have t1 := tks_one (hc _ (List.getElem_mem ml))
    have e : cs.take (m + 1) = cs.take m ++ [cs[m]] := by rw [List.take_succ, q]; rfl
    rw [List.range_succ, List.map_append, List.flatten_append, segs_row hc m (by omega), e, tks_app, show tks [cs[m]] = cs[m].tks by unfold tks; simp]
    have s : ([m].map (seg row cs)).flatten = (row.drop (tks (cs.take m)).toNat).take cs[m].tks.toNat := by
      rw [List.map_cons, List.map_nil, List.flatten_cons, List.flatten_nil, List.append_nil]
      unfold seg
      rw [q]
    rw [s, show (tks (cs.take m) + cs[m].tks).toNat = (tks (cs.take m)).toNat + cs[m].tks.toNat by omega, List.take_add]
theorem ordr_perm (d : Str) (n : Nat) : (ordr d n).Perm (List.range n) := by
  unfold ordr
  split
  · exact List.reverse_perm _
  · exact List.Perm.refl _
theorem wkd_wi {d : Str} {cs : List Cmd} {row : List Nm} {L : List Lp} {dr : List Nm} (hc : ∀ c ∈ cs, c.ok) (ht : tks cs = row.length) (cn : Cnt L) (W : Wi row L dr) : Wi (wkd d cs row L dr).af.flatten (wkd d cs row L dr).L (wkd d cs row L dr).dr := by
  have p0 : Pi' row cs (ordr d cs.length) ⟨L, dr, cs.map fun _ => []⟩ := by
    refine ⟨fun a => ?_, W.nd, W.old, cn, fun i hi => ?_, (ordr_perm d _).nodup_iff.mpr List.nodup_range⟩
    · have e1 : ((ordr d cs.length).map (seg row cs)).flatten.count a = row.count a := by
        rw [(((ordr_perm d cs.length).map (seg row cs)).flatten).count_eq, segs_row hc cs.length (Nat.le_refl _), List.take_length, ht, Int.toNat_natCast, List.take_length]
      have e2 : (cs.map fun _ => ([] : List Nm)).flatten = [] := by
        clear e1 ht hc
        induction cs with
        | nil => rfl
        | cons c cs ih => rw [List.map_cons, List.flatten_cons, ih]; rfl
      have := W.perm a
      simp only [List.count_append, e1, e2, List.count_nil] at this ⊢
      omega
    · have := List.mem_range.mp ((ordr_perm d _).mem_iff.mp hi)
      rw [List.getElem?_map, List.getElem?_eq_getElem this]
      rfl
  have P := pi_fold hc (ordr d cs.length) _ (fun i hi => List.mem_range.mp ((ordr_perm d _).mem_iff.mp hi)) p0
  refine ⟨fun a => ?_, P.nd, P.old⟩
  have := P.perm a
  rw [List.map_nil, List.flatten_nil, List.nil_append] at this
  exact this
end Sh


set_option maxRecDepth 100000
set_option maxHeartbeats 4000000
/-! how many columns; a whole chart -/
namespace Sh
open PySem L2 Evl
theorem stp_at {row : List Nm} {cs : List Cmd} {p : Pr} {i : Nat} {c : Cmd} (hi : cs[i]? = some c) (hc : c.ok) (t0 : 0 ≤ tks (cs.take i)) (t2 : tks (cs.take i) + c.tks ≤ row.length) (e : p.af[i]? = some []) : ((stp row cs p i).af[i]?).map List.length = some c.aft ∧ ∀ j, j ≠ i → (stp row cs p i).af[j]? = p.af[j]? := by
  have il : i < p.af.length := (List.getElem?_eq_some_iff.mp e).1
  have put : ∀ xs : List Nm, xs.length = c.aft → ((p.af.set i xs)[i]?).map List.length = some c.aft ∧ ∀ j, j ≠ i → (p.af.set i xs)[j]? = p.af[j]? := fun xs h => ⟨by rw [List.getElem?_set_self il]; exact congrArg some h, fun j hj => List.getElem?_set_ne (Ne.symm hj)⟩
  cases c with
  | one k =>
    by_cases hk : k = "pass"
    · have q : stp row cs p i = { p with af := p.af.set i (seg row cs i) } := by unfold stp; rw [hi]; exact if_pos hk
      rw [q]
      refine put _ ?_
      unfold seg
      rw [hi]
      have t1 : Cmd.tks (.one k) = 1 := rfl
      rw [t1] at t2
      show ((row.drop _).take 1).length = if k = "drop" then 0 else 1
      rw [List.length_take, List.length_drop, hk, if_neg (by decide)]
      omega
    · have hd : k = "drop" := (show k = "pass" ∨ k = "drop" from hc).resolve_left hk
      have q : stp row cs p i = { p with dr := p.dr ++ seg row cs i } := by unfold stp; rw [hi]; exact if_neg hk
      rw [q]
      refine ⟨?_, fun j hj => rfl⟩
      show (p.af[i]?).map List.length = some (if k = "drop" then 0 else 1)
      rw [e, if_pos hd]
      rfl
  | two k y =>
    have q : stp row cs p i = { L := p.L ++ [((y, cnt p.L y), .two k y, seg row cs i)], dr := p.dr, af := p.af.set i [(y, cnt p.L y)] } := by unfold stp; rw [hi]; rfl
    rw [q]
    exact put _ rfl
  | join m lean side y =>
    have q : stp row cs p i = { L := p.L ++ [((y, cnt p.L y), .join m lean side y, seg row cs i)], dr := p.dr, af := p.af.set i [(y, cnt p.L y)] } := by unfold stp; rw [hi]; rfl
    rw [q]
    exact put _ rfl
theorem len_fold {row : List Nm} {cs : List Cmd} (hc : ∀ c ∈ cs, c.ok) (ht : tks cs ≤ row.length) : ∀ (is : List Nat) (p : Pr), is.Nodup → (∀ i ∈ is, i < cs.length ∧ p.af[i]? = some []) →
    (∀ i ∈ is, ∀ c, cs[i]? = some c → ((is.foldl (stp row cs) p).af[i]?).map List.length = some c.aft) ∧ ∀ j, j ∉ is → (is.foldl (stp row cs) p).af[j]? = p.af[j]?
  | [], p, _, _ => ⟨fun _ h => (nomatch h), fun _ _ => rfl⟩
  | i :: is, p, nd, h => by
    have nin := (List.nodup_cons.mp nd).1
    obtain ⟨il, ei⟩ := h i List.mem_cons_self
    have q := List.getElem?_eq_getElem il
    have okc := hc _ (List.getElem_mem il)
    obtain ⟨t0, t2⟩ := tks_at hc q
    obtain ⟨a, b⟩ := stp_at (p := p) q okc t0 (Int.le_trans t2 ht) ei
    obtain ⟨u, v⟩ := len_fold hc ht is (stp row cs p i) (List.nodup_cons.mp nd).2 fun j hj => by
      have ne : j ≠ i := fun e => nin (e ▸ hj)
      obtain ⟨jl, ej⟩ := h j (List.mem_cons_of_mem _ hj)
      exact ⟨jl, (b j ne).trans ej⟩
    refine ⟨fun j hj c hcj => ?_, fun j hj => ?_⟩
    · rw [List.foldl_cons]
      rcases List.mem_cons.mp hj with rfl | hj
      · rw [v j nin]
        rw [q] at hcj
        cases hcj
        exact a
      · exact u j hj c hcj
    · rw [List.foldl_cons, v j fun z => hj (List.mem_cons_of_mem _ z)]
      exact b j fun z => hj (z ▸ List.mem_cons_self)
theorem wkd_len {d : Str} {cs : List Cmd} {row : List Nm} {L : List Lp} {dr : List Nm} (hc : ∀ c ∈ cs, c.ok) (ht : tks cs ≤ row.length) : (wkd d cs row L dr).af.flatten.length = aft cs := by
  have nd : (ordr d cs.length).Nodup := (ordr_perm d _).nodup_iff.mpr List.nodup_range
  have mem : ∀ i, i ∈ ordr d cs.length ↔ i < cs.length := fun i => (ordr_perm d _).mem_iff.trans List.mem_range
  obtain ⟨u, _⟩ := len_fold (row := row) hc ht (ordr d cs.length) ⟨L, dr, cs.map fun _ => []⟩ nd fun i hi => ⟨(mem i).mp hi, by
    show (cs.map fun _ => ([] : List Nm))[i]? = _
    rw [List.getElem?_map, List.getElem?_eq_getElem ((mem i).mp hi)]
    rfl⟩
  have e : (wkd d cs row L dr).af.map List.length = cs.map Cmd.aft := by
    have ll : (wkd d cs row L dr).af.length = cs.length := (foldl_af (ordr d cs.length) _).trans (by rw [List.length_map])
    refine List.ext_getElem? fun i => ?_
    rw [List.getElem?_map, List.getElem?_map]
    by_cases h : i < cs.length
    · have := u i ((mem i).mpr h) _ (List.getElem?_eq_getElem h)
      rw [List.getElem?_eq_getElem h]
      exact this
    · rw [List.getElem?_eq_none (by omega), List.getElem?_eq_none (by omega)]
      rfl
  rw [List.length_flatten, e]
  rfl
/-- a chart's lines fit, read from the first one -/
def FitR : Int → List Line → Int → Prop
  | c, [], c' => c' = c
  | c, l :: ls, c' => ∃ c1, l.fits c c1 ∧ FitR c1 ls c'
theorem FitR.snoc {l : Line} {c2 : Int} : ∀ {ls : List Line} {c c1 : Int}, FitR c ls c1 → l.fits c1 c2 → FitR c (ls ++ [l]) c2
  | [], c, c1, h, k => by
    have h : c1 = c := h
    subst h
    exact ⟨c2, k, rfl⟩
  | x :: ls, c, c1, h, k => by
    obtain ⟨c3, h1, h2⟩ := h
    exact ⟨c3, h1, FitR.snoc h2 k⟩
theorem fits_r {c c' : Int} {ls : List Line} (h : Fits' c ls c') : FitR c ls c' := by
  induction h with
  | nil => rfl
  | snoc a b ih => exact ih.snoc b
def Line.cost : Line → Nat
  | .work _ cs => cs.length
  | .move ex => ex.length
def cost (ls : List Line) : Nat := (ls.map Line.cost).sum
theorem Wi.le {row : List Nm} {L : List Lp} {dr : List Nm} (W : Wi row L dr) : row.length + dr.length ≤ L.length := by
  have p : (row ++ dr ++ L.flatMap dep).Perm (L.map (·.1)) := List.perm_iff_count.mpr W.perm
  have := p.length_eq
  rw [List.length_append, List.length_append, List.length_map] at this
  omega
theorem Wi.perm_row {row row' : List Nm} {L : List Lp} {dr : List Nm} (W : Wi row L dr) (h : row'.Perm row) : Wi row' L dr := ⟨fun a => by
  have := W.perm a
  simp only [List.count_append, h.count_eq a] at this ⊢
  exact this, W.nd, W.old⟩
theorem fold_L {row : List Nm} {cs : List Cmd} : ∀ (is : List Nat) (p : Pr), (is.foldl (stp row cs) p).L.length ≤ p.L.length + is.length
  | [], _ => Nat.le_refl _
  | i :: is, p => by
    have a := fold_L (row := row) (cs := cs) is (stp row cs p i)
    have b := stp_L (row := row) (cs := cs) (p := p) (i := i)
    rw [List.foldl_cons, List.length_cons]
    omega
theorem wkd_L {d : Str} {cs : List Cmd} {row : List Nm} {L : List Lp} {dr : List Nm} : (wkd d cs row L dr).L.length ≤ L.length + cs.length := by
  have a := fold_L (row := row) (cs := cs) (ordr d cs.length) ⟨L, dr, cs.map fun _ => []⟩
  have b := (ordr_perm d cs.length).length_eq
  rw [List.length_range] at b
  rw [b] at a
  exact a
theorem aft_le : ∀ cs : List Cmd, aft cs ≤ cs.length
  | [] => Nat.le_refl _
  | c :: cs => by
    have a := aft_le cs
    have b : c.aft ≤ 1 := by
      cases c with
      | one k => show (if k = "drop" then 0 else 1) ≤ 1; split <;> decide
      | _ => exact Nat.le_refl _
    unfold aft at a ⊢
    rw [List.map_cons, List.sum_cons, List.length_cons]
    omega
/-- the loops' commands draw, and name -/
def LOk (L : List Lp) : Prop := ∀ l ∈ L, l.2.1.ok ∧ (∀ k, l.2.1 ≠ .one k) ∧ l.1.1 = l.2.1.yarn
theorem stp_ok {row : List Nm} {cs : List Cmd} {p : Pr} {i : Nat} (hc : ∀ c ∈ cs, c.ok) (h : LOk p.L) : LOk (stp row cs p i).L := by
  have add : ∀ c xs, cs[i]? = some c → (∀ k, c ≠ .one k) → LOk (p.L ++ [((c.yarn, cnt p.L c.yarn), c, xs)]) := fun c xs e h1 l hl => by
    rcases List.mem_append.mp hl with hl | hl
    · exact h l hl
    · rw [List.mem_singleton.mp hl]
      exact ⟨hc c (List.mem_of_getElem? e), h1, rfl⟩
  unfold stp
  split
  · exact h
  · split <;> exact h
  · rename_i c h1 e
    exact add c _ e fun k z => h1 k z
theorem fold_ok {row : List Nm} {cs : List Cmd} (hc : ∀ c ∈ cs, c.ok) : ∀ (is : List Nat) (p : Pr), LOk p.L → LOk (is.foldl (stp row cs) p).L
  | [], _, h => h
  | i :: is, p, h => fold_ok hc is _ (stp_ok hc h)
theorem cnt_le (L : List Lp) (y : Str) : cnt L y ≤ L.length := List.length_filter_le _ _
theorem LOk.nm {L : List Lp} (h : LOk L) (cn : Cnt L) (z : L.length ≤ 200000) : ∀ n ∈ L.map (·.1), nOk n := fun n hn => by
  obtain ⟨l, hl, rfl⟩ := List.mem_map.mp hn
  obtain ⟨a, b, c⟩ := h l hl
  refine ⟨?_, by have := cn l hl; have := cnt_le L l.1.1; omega⟩
  rw [c]
  cases q : l.2.1 with
  | one k => exact absurd q (b k)
  | two k y => rw [q] at a; exact a.2
  | join m lean side y => rw [q] at a; exact a.2.2.2
theorem Wi.sub {row : List Nm} {L : List Lp} {dr : List Nm} (W : Wi row L dr) : (∀ n ∈ row, n ∈ L.map (·.1)) ∧ (∀ n ∈ dr, n ∈ L.map (·.1)) ∧ ∀ l ∈ L, ∀ n ∈ dep l, n ∈ L.map (·.1) := by
  have p : (row ++ dr ++ L.flatMap dep).Perm (L.map (·.1)) := List.perm_iff_count.mpr W.perm
  exact ⟨fun n hn => p.mem_iff.mp (List.mem_append_left _ (List.mem_append_left _ hn)), fun n hn => p.mem_iff.mp (List.mem_append_left _ (List.mem_append_right _ hn)), fun l hl n hn => p.mem_iff.mp (List.mem_append_right _ (List.mem_flatMap.mpr ⟨l, hl, hn⟩))⟩
/-- a chart of work lines alone -/
abbrev Tri := List Nm × List Lp × List Nm
def wln (d : Str) (cs : List Cmd) (t : Tri) : Tri := ((wkd d cs t.1 t.2.1 t.2.2).af.flatten, (wkd d cs t.1 t.2.1 t.2.2).L, (wkd d cs t.1 t.2.1 t.2.2).dr)
def wlns : List Line → Tri → Tri
  | [], t => t
  | .work d cs :: ls, t => wlns ls (wln d cs t)
  | .move _ :: ls, t => wlns ls t
def Work (ls : List Line) : Prop := ∀ l ∈ ls, ∃ d cs, l = .work d cs
variable [Wd]
noncomputable abbrev dnBody : S :=
  (sIf (dB (dEq (dOp oIx (dVar 2) (dC (.int 0))) (dC (.str "work"))))
  (sSet 1 (dCall m_worked (dCons (dVar 1) (dCons (dOp oIx (dVar 2) (dC (.int 1))) (dCons (dOp oIx (dVar 2) (dC (.int 2))) dNil)))))
  (sSet 1 (dCall m_moved (dCons (dVar 1) (dCons (dOp oIx (dVar 2) (dC (.int 1))) dNil)))))
/-- a chart under way: its cells begin at n0 -/
structure Dn (st0 st : Store) (n0 : Nat) (row : List Nm) (L : List Lp) (dr : List Nm) (X : List Xc) (k : Nat) : Prop where
  at' : At st n0 (n0 + 2) (n0 + 3) L dr
  x : XAt st (n0 + 4) (n0 + 1) X k
  wi : Wi row L dr
  fr : ∀ n, n < n0 → st[n]? = st0[n]?
  r : row.length ≤ 320
  lo : LOk L
theorem dn_turn {st0 st : Store} {n0 : Nat} {row : List Nm} {L : List Lp} {dr : List Nm} {X : List Xc} {k : Nat} {l : Line} {c1 : Int} {w0 : W} (D : Dn st0 st n0 row L dr X k) (ok : l.ok) (f : l.fits (row.length : Int) c1) (z : L.length + k + l.cost ≤ 100000) :
    ∃ (row' : List Nm) (L' : List Lp) (dr' : List Nm) (X' : List Xc) (k' : Nat) (st' : Store), dnBody [some w0, some (world row n0 (n0 + 1) (n0 + 2) (n0 + 3)), some (lW l)] st = .nx [some w0, some (world row' n0 (n0 + 1) (n0 + 2) (n0 + 3)), some (lW l)] st' ∧ Dn st0 st' n0 row' L' dr' X' k' ∧ c1 = (row'.length : Int) ∧ L'.length + k' ≤ L.length + k + l.cost ∧ ∀ d cs, l = .work d cs → (row', L', dr') = wln d cs (row, L, dr) := by
  cases l with
  | work d cs =>
    have i0 : ∀ s : Store, dOp oIx (dVar 2) (dC (.int 0)) [some w0, some (world row n0 (n0 + 1) (n0 + 2) (n0 + 3)), some (lW (.work d cs))] s = .ok (.str "work") s := fun s => rOp (x := lW (.work d cs)) (rV rfl) rC (ix_at (xs := [.str "work", .str d, .lst (cs.map cW)]) rfl (by decide) rfl)
    have i1 : ∀ s : Store, dOp oIx (dVar 2) (dC (.int 1)) [some w0, some (world row n0 (n0 + 1) (n0 + 2) (n0 + 3)), some (lW (.work d cs))] s = .ok (.str d) s := fun s => rOp (x := lW (.work d cs)) (rV rfl) rC (ix_at (xs := [.str "work", .str d, .lst (cs.map cW)]) rfl (by decide) rfl)
    have i2 : ∀ s : Store, dOp oIx (dVar 2) (dC (.int 2)) [some w0, some (world row n0 (n0 + 1) (n0 + 2) (n0 + 3)), some (lW (.work d cs))] s = .ok (.lst (cs.map cW)) s := fun s => rOp (x := lW (.work d cs)) (rV rfl) rC (ix_at (xs := [.str "work", .str d, .lst (cs.map cW)]) rfl (by decide) rfl)
    obtain ⟨o1, o2, o3⟩ := ok
    have f1 : tks cs = (row.length : Int) := f.1
    have z1 : L.length + k + cs.length ≤ 100000 := z
    have le := D.wi.le
    obtain ⟨st', q1, q2, q3, q4⟩ := worked_run (b := n0 + 1) (a := n0) (e := n0 + 2) (f := n0 + 3) ⟨by omega, by omega, by omega⟩ D.at' o1 o2 o3 (by omega) D.r (by omega) (by omega)
    have ll := wkd_len (d := d) (L := L) (dr := dr) o2 (Int.le_of_eq f1)
    have xl := D.x.lt
    refine ⟨(wkd d cs row L dr).af.flatten, (wkd d cs row L dr).L, (wkd d cs row L dr).dr, X, k, st', sIf_t ((rDe (i0 _) rC).trans (by rw [decide_eq_true]; rfl)) (sSet_at (rCall (rCons (rV rfl) (rCons (i1 _) (rCons (i2 _) rNil))) q1)), ⟨q2, ?_, wkd_wi o2 f1 D.at'.cn D.wi, fun n hn => (q4 n (by omega) (by omega) (by omega) (by omega)).trans (D.fr n hn), ?_, fold_ok o2 _ _ D.lo⟩, f.2.trans (by rw [ll]), by have := wkd_L (d := d) (cs := cs) (row := row) (L := L) (dr := dr); show _ ≤ _ + cs.length; omega, fun d' cs' e => by cases e; rfl⟩
    · have sm : ∀ n, n < st.length → n ≠ n0 → n ≠ n0 + 2 → n ≠ n0 + 3 → lcell st' n = lcell st n := fun n a b c d => by unfold lcell; rw [q4 n a b c d]
      refine ⟨?_, fun x hx => ?_, D.x.ge, ⟨xl.1, by omega⟩, D.x.sz, D.x.nd, D.x.nm, D.x.tot⟩
      · have := D.x.db
        unfold dcell at this ⊢
        rw [q4 (n0 + 1) (by omega) (by omega) (by omega) (by omega)]
        exact this
      · have ge := D.x.ge x hx
        rw [sm x.at' (lcell_lt (D.x.cells x hx)) (by omega) (by omega) (by omega)]
        exact D.x.cells x hx
    · rw [ll]
      exact Nat.le_trans (aft_le cs) o3
  | move ex =>
    have i0 : ∀ s : Store, dOp oIx (dVar 2) (dC (.int 0)) [some w0, some (world row n0 (n0 + 1) (n0 + 2) (n0 + 3)), some (lW (.move ex))] s = .ok (.str "move") s := fun s => rOp (x := lW (.move ex)) (rV rfl) rC (ix_at (xs := [.str "move", .lst (ex.map eW)]) rfl (by decide) rfl)
    have i1 : ∀ s : Store, dOp oIx (dVar 2) (dC (.int 1)) [some w0, some (world row n0 (n0 + 1) (n0 + 2) (n0 + 3)), some (lW (.move ex))] s = .ok (.lst (ex.map eW)) s := fun s => rOp (x := lW (.move ex)) (rV rfl) rC (ix_at (xs := [.str "move", .lst (ex.map eW)]) rfl (by decide) rfl)
    obtain ⟨row', X', st', q1, q2, q3, q4, q5⟩ := moved_run (a := n0) (e := n0 + 2) (f := n0 + 3) D.x (show k + ex.length ≤ 100000 by have z : L.length + k + ex.length ≤ 100000 := z; omega) f.1 (fun n hn => D.lo.nm D.at'.cn (by omega) n (D.wi.sub.1 n hn)) (by have := D.r; omega)
    have ql := q2.length_eq
    refine ⟨row', L, dr, X', k + ex.length, st', sIf_f ((rDe (i0 _) rC).trans (by rw [decide_eq_false]; decide)) (sSet_at (rCall (rCons (rV rfl) (rCons (i1 _) rNil)) q1)), ⟨?_, q3, D.wi.perm_row q2, fun n hn => (q5 n (by omega) (by omega)).trans (D.fr n hn), by rw [ql]; exact D.r, D.lo⟩, f.2.trans (by rw [ql]), by show _ ≤ _ + ex.length; omega, fun d' cs' e => by cases e⟩
    obtain ⟨kvs, p1, p2⟩ := D.at'.lf
    have a := D.at'.la
    have e := D.at'.le
    refine ⟨?_, ?_, ⟨kvs, ?_, p2⟩, D.at'.cn⟩
    · unfold dcell at a ⊢
      rw [q5 n0 (by omega) (by omega)]
      exact a
    · unfold lcell at e ⊢
      rw [q5 (n0 + 2) (by omega) (by omega)]
      exact e
    · unfold kcell at p1 ⊢
      rw [q5 (n0 + 3) (by omega) (by omega)]
      exact p1
theorem dn_loop {st0 : Store} {n0 : Nat} {w0 : W} {ok : Store → Prop} (hok : ∀ st, (∀ n, n < n0 → st[n]? = st0[n]?) → ok st) : ∀ (ls : List Line) (st : Store) (row : List Nm) (L : List Lp) (dr : List Nm) (X : List Xc) (k : Nat) (c : Int) (o2 : Option W), Dn st0 st n0 row L dr X k → (∀ l ∈ ls, l.ok) → FitR (row.length : Int) ls c → L.length + k + cost ls ≤ 100000 →
    ∃ (row' : List Nm) (L' : List Lp) (dr' : List Nm) (X' : List Xc) (k' : Nat) (st' : Store) (o2' : Option W), forGo ok (gN 2) dnBody (ls.map lW) [some w0, some (world row n0 (n0 + 1) (n0 + 2) (n0 + 3)), o2] st = .nx [some w0, some (world row' n0 (n0 + 1) (n0 + 2) (n0 + 3)), o2'] st' ∧ Dn st0 st' n0 row' L' dr' X' k' ∧ c = (row'.length : Int) ∧ L'.length + k' ≤ L.length + k + cost ls ∧ (Work ls → (row', L', dr') = wlns ls (row, L, dr))
  | [], st, row, L, dr, X, k, c, o2, D, hl, f, z => ⟨row, L, dr, X, k, st, o2, forGo_nil (hok st D.fr), D, f, Nat.le_add_right _ _, fun _ => rfl⟩
  | l :: ls, st, row, L, dr, X, k, c, o2, D, hl, f, z => by
    obtain ⟨c1, f1, f2⟩ := f
    have cc : cost (l :: ls) = l.cost + cost ls := by unfold cost; rw [List.map_cons, List.sum_cons]
    rw [cc] at z
    obtain ⟨row1, L1, dr1, X1, k1, st1, e1, D1, rfl, y1, y2⟩ := dn_turn (w0 := w0) D (hl l List.mem_cons_self) f1 (by omega)
    obtain ⟨row2, L2, dr2, X2, k2, st2, o2', e2, D2, g2, u1, u2⟩ := dn_loop (w0 := w0) hok ls st1 row1 L1 dr1 X1 k1 c (some (lW l)) D1 (fun x hx => hl x (List.mem_cons_of_mem _ hx)) f2 (by omega)
    refine ⟨row2, L2, dr2, X2, k2, st2, o2', ?_, D2, g2, by omega, fun hw => ?_⟩
    rotate_left
    · obtain ⟨d, cs, e⟩ := hw l List.mem_cons_self
      have q := y2 d cs e
      have q2 := u2 fun x hx => hw x (List.mem_cons_of_mem _ hx)
      rw [q2, q, e]
      rfl
    rw [List.map_cons, forGo_nx (ok := ok) (env1 := [some w0, some (world row n0 (n0 + 1) (n0 + 2) (n0 + 3)), some (lW l)]) (st1 := st) (hok st D.fr) rfl e1]
    exact e2
end Sh


set_option maxRecDepth 100000
set_option maxHeartbeats 4000000
/-! done: from the empty world -/
namespace Sh
open PySem L2 Evl
variable [Wd]
theorem iL_of {xs : List W} {st : Store} {env : Env} {i : Nat} (h : env[i]? = some (some (.lst xs))) : iL (dVar i) env st = .ok ⟨xs, fun _ => True⟩ st := rList (rV h)
/-- what done leaves -/
theorem done_run' {st0 : Store} {ls : List Line} {c : Int} {w0 : W} {ok : Store → Prop} (hok : ∀ st, (∀ n, n < st0.length → st[n]? = st0[n]?) → ok st) (hl : ∀ l ∈ ls, l.ok) (f : FitR 0 ls c) (z : cost ls ≤ 100000)
    (hi : ∀ (env : Env) st, env[0]? = some (some w0) → (∀ n, n < st0.length → st[n]? = st0[n]?) → iL (dVar 0) env st = .ok ⟨ls.map lW, ok⟩ st) :
    ∃ (row : List Nm) (L : List Lp) (dr : List Nm) (X : List Xc) (k : Nat) (st' : Store), m_done [w0] st0 = .ok (world row st0.length (st0.length + 1) (st0.length + 2) (st0.length + 3)) st' ∧ Dn st0 st' st0.length row L dr X k ∧ c = (row.length : Int) ∧ L.length + k ≤ cost ls ∧ (Work ls → (row, L, dr) = wlns ls ([], [], [])) := by
  generalize hn : st0.length = n0
  rw [hn] at hok hi
  let st1 : Store := st0 ++ [.dN [], .dN [], .lst [], .dK []]
  have l1 : st1.length = n0 + 4 := by rw [List.length_append, hn]; rfl
  have g0 : ∀ n, n < n0 → st1[n]? = st0[n]? := fun n h => List.getElem?_append_left (by omega)
  have gi : ∀ i, st1[n0 + i]? = ([.dN [], .dN [], .lst [], .dK []] : Store)[i]? := fun i => by
    show (st0 ++ _)[n0 + i]? = _
    rw [List.getElem?_append_right (by omega), ← hn]
    congr 1
    omega
  have dk : ∀ (env : Env) (st : Store), dDictK env st = .ok (.cell st.length) (st ++ [.dK []]) := fun _ _ => rfl
  have dn : ∀ (env : Env) (st : Store), dDictN env st = .ok (.cell st.length) (st ++ [.dN []]) := fun _ _ => rfl
  have s1 : sSet 1 (dPure (dLst (dCons (dPure (dLst dNil)) (dCons dDictN (dCons dDictN (dCons (dCell (dLst dNil)) (dCons dDictK dNil))))))) [some w0, none, none] st0 = .nx [some w0, some (world [] n0 (n0 + 1) (n0 + 2) (n0 + 3)), none] st1 := by
    have q := sSet_at (i := 1) (rPure (rLst (rCons (rPure (rLst (rNil (env := [some w0, none, none]) (st := st0)) two0)) (rCons (dn _ _) (rCons (dn _ _) (rCons (rCell (rLst rNil two0)) (rCons (dk _ _) rNil))))) (line_ge (show 5 ≤ 1024 by decide))))
    simp only [List.length_append, List.append_assoc, hn] at q
    exact q
  have D1 : Dn st0 st1 n0 [] [] [] [] 0 := by
    refine ⟨⟨?_, ?_, ⟨[], ?_, ⟨fun y => rfl, Nat.le_refl _⟩⟩, fun _ h => (nomatch h)⟩, ⟨?_, fun _ h => (nomatch h), fun _ h => (nomatch h), ⟨by omega, by omega⟩, ⟨Nat.le_refl _, fun _ h => (nomatch h)⟩, List.Pairwise.nil, fun _ h => (nomatch h), Nat.le_refl _⟩, ⟨fun _ => rfl, List.nodup_nil, fun i l h => by cases h⟩, g0, Nat.zero_le _, fun _ h => (nomatch h)⟩
    · unfold dcell
      rw [show st1[n0]? = _ from gi 0]
      rfl
    · unfold lcell
      rw [gi 2]
      rfl
    · unfold kcell
      rw [gi 3]
      rfl
    · unfold dcell
      rw [gi 1]
      rfl
  obtain ⟨row, L, dr, X, k, st', o2, e1, D, hc, h1, h3⟩ := dn_loop (w0 := w0) hok ls st1 [] [] [] [] 0 c none D1 hl f (by simpa using z)
  refine ⟨row, L, dr, X, k, st', body_rt rfl (sSeq_at s1 (sSeq_at (rFor (hi _ st1 rfl g0) e1) (sRet_at (rV rfl)))), D, hc, by simpa using h1, h3⟩
theorem done_run {st0 : Store} {ls : List Line} {c : Int} {w0 : W} {ok : Store → Prop} (hok : ∀ st, (∀ n, n < st0.length → st[n]? = st0[n]?) → ok st) (hl : ∀ l ∈ ls, l.ok) (f : FitR 0 ls c) (z : cost ls ≤ 100000)
    (hi : ∀ (env : Env) st, env[0]? = some (some w0) → (∀ n, n < st0.length → st[n]? = st0[n]?) → iL (dVar 0) env st = .ok ⟨ls.map lW, ok⟩ st) :
    ∃ (row : List Nm) (L : List Lp) (dr : List Nm) (X : List Xc) (k : Nat) (st' : Store), m_done [w0] st0 = .ok (world row st0.length (st0.length + 1) (st0.length + 2) (st0.length + 3)) st' ∧ Dn st0 st' st0.length row L dr X k ∧ c = (row.length : Int) ∧ L.length + k ≤ cost ls := by
  obtain ⟨row, L, dr, X, k, st', a, b, c, d, _⟩ := done_run' hok hl f z hi
  exact ⟨row, L, dr, X, k, st', a, b, c, d⟩
end Sh


set_option maxRecDepth 100000
set_option maxHeartbeats 4000000
/-! the record of a chart -/
namespace Sh
open PySem L2 Evl PySem.W
def sideOf (l : Lp) : Str := match l.2.1 with
  | .join _ _ side _ => side
  | .two k _ => k
  | .one k => k
def plc (l : Lp) : List Nm := match l.2.1 with
  | .two k _ => if k = "tuck" then [] else l.2.2
  | _ => l.2.2
def rowW (l : Lp) : W := .tup [nW l.1, .str (sideOf l), .lst ((dep l).map nW), .lst ((plc l).map nW)]
theorem lpW_eq (l : Lp) : lpW l.2.1 (l.2.2.map nW) = .tup [.str (sideOf l), .lst ((dep l).map nW), .lst ((plc l).map nW)] := by
  obtain ⟨n, c, xs⟩ := l
  cases c with
  | one k => rfl
  | two k y =>
    show (if k = "tuck" then _ else _) = W.tup [.str k, .lst ((if k = "tuck" then [] else xs).map nW), .lst ((if k = "tuck" then [] else xs).map nW)]
    by_cases h : k = "tuck"
    · rw [if_pos h, if_pos h, h]; rfl
    · rw [if_neg h, if_neg h]
  | join m lean side y =>
    show W.tup [.str side, .lst (if lean = "right" then (xs.map nW).reverse else xs.map nW), .lst (xs.map nW)] = W.tup [.str side, .lst ((if lean = "right" then xs.reverse else xs).map nW), .lst (xs.map nW)]
    by_cases h : lean = "right"
    · rw [if_pos h, if_pos h, List.map_reverse]
    · rw [if_neg h, if_neg h]
def xrW (x : Xc) : W := .tup [nW x.one, nW x.two, .lst (x.ov.map nW)]
section
variable {α : Type} {f : α → W} {g : α → PyData}
theorem dats_of : ∀ {as : List α}, (∀ a ∈ as, dat (f a) = some (g a)) → dats (as.map f) = some (as.map g)
  | [], _ => rfl
  | a :: as, h => by
    rw [List.map_cons, dats, h a List.mem_cons_self, dats_of fun x hx => h x (List.mem_cons_of_mem _ hx)]
    rfl
theorem sort_of [Wd] (as : List α) : sortW (as.map f) (as.map g) = (as.mergeSort (dataLe false g)).map f := by
  unfold sortW
  rw [zip_map, ← List.map_mergeSort (f := fun a : α => (f a, g a)) (s := leD) (r := dataLe false g) (fun a _ b _ => rfl), List.map_map]
  rfl
theorem fitS_of {as : List α} (h1 : ∀ a b : α, alike (g a) (g b) = true) (h2 : ∀ a, ∃ x xs, g a = .tuple (x :: xs)) (h3 : ∀ a, (g a).depth ≤ 40) (h4 : as.length ≤ 1000000) : fitS (as.map g) = true := by
  have e1 : ((as.map g).all fun d => (as.map g).all fun d' => alike d d') = true := by
    rw [List.all_eq_true]
    intro d hd
    rw [List.all_eq_true]
    intro d' hd'
    obtain ⟨a, _, rfl⟩ := List.mem_map.mp hd
    obtain ⟨b, _, rfl⟩ := List.mem_map.mp hd'
    exact h1 a b
  have e3 : ((as.map g).all fun d => decide (d.depth ≤ 40)) = true := by
    rw [List.all_eq_true]
    intro d hd
    obtain ⟨a, _, rfl⟩ := List.mem_map.mp hd
    exact decide_eq_true (h3 a)
  have e4 : decide ((as.map g).length ≤ sizeLine) = true := decide_eq_true (by rw [List.length_map]; exact Nat.le_trans h4 (by decide))
  unfold fitS
  simp only [Bool.and_eq_true, Bool.or_eq_true]
  refine ⟨⟨⟨e1, .inl ?_⟩, e3⟩, e4⟩
  rw [List.all_eq_true]
  intro d hd
  obtain ⟨a, _, rfl⟩ := List.mem_map.mp hd
  obtain ⟨x, xs, e⟩ := h2 a
  rw [e]
end
def srtN (ns : List Nm) : List Nm := ns.mergeSort (dataLe false dN)
def srtL (L : List Lp) : List Lp := L.mergeSort (dataLe false fun l => dN l.1)
def dX (x : Xc) : PyData := .tuple [dN x.one, dN x.two]
def srtX (X : List Xc) : List Xc := X.mergeSort (dataLe false dX)
theorem dep_N (n : Nm) : (dN n).depth ≤ 40 := by
  unfold dN
  simp [PyData.depth, PyData.depthAll]
theorem dep_X (x : Xc) : (dX x).depth ≤ 40 := by
  unfold dX dN
  simp [PyData.depth, PyData.depthAll]
end Sh


set_option maxRecDepth 100000
set_option maxHeartbeats 4000000
namespace Sh
open PySem L2 Evl PySem.W
variable [Wd]
omit [Wd] in
theorem look_at {l : Lp} : ∀ {L : List Lp}, (L.map (·.1)).Nodup → l ∈ L → lookW (L.map lpE) (nKey l.1) = some (lpE l).2
  | x :: L, nd, h => by
    unfold lookW
    rw [List.map_cons, List.find?_cons]
    rw [List.map_cons, List.nodup_cons] at nd
    rcases List.mem_cons.mp h with rfl | h
    · rw [decide_eq_true (show nkW (lpE l).1 = some (nKey l.1) from nk_nW l.1)]
      rfl
    · have ne : ¬ nkW (lpE x).1 = some (nKey l.1) := fun e => nd.1 (by
        rw [nKey_inj (Option.some.inj ((nk_nW x.1).symm.trans e))]
        exact List.mem_map.mpr ⟨l, h, rfl⟩)
      rw [decide_eq_false ne]
      exact look_at nd.2 h
omit [Wd] in
theorem find_pair {x : Xc} : ∀ {X : List Xc}, (X.Pairwise fun x y => x.at' ≠ y.at' ∧ ¬ (x.one = y.one ∧ x.two = y.two)) → x ∈ X → X.find? (isP x.one x.two) = some x
  | y :: X, nd, h => by
    rw [List.find?_cons]
    rw [List.pairwise_cons] at nd
    rcases List.mem_cons.mp h with rfl | h
    · rw [show isP x.one x.two x = true from decide_eq_true ⟨rfl, rfl⟩]
    · rw [show isP x.one x.two y = false from decide_eq_false (nd.1 x h).2]
      exact find_pair nd.2 h
abbrev rEnv (a b e : Nat) (rest : W) (o4 o5 o6 o7 : Option W) : Env := [some (.cell a), some (.cell b), some rest, some (.cell e), o4, o5, o6, o7]
section
variable {a b e : Nat} {rest : W} {L : List Lp} {X : List Xc} {dr : List Nm}
theorem alN (n m : Nm) : alike (dN n) (dN m) = true := rfl
theorem alX (x y : Xc) : alike (dX x) (dX y) = true := rfl
theorem rows_run {st : Store} (ha : dcell st a = some (L.map lpE)) (nd : (L.map (·.1)).Nodup) (z : L.length ≤ 500000) :
    dPure (dLc (iL (dPure (dCallF cSortedN (dCons (dVar 0) dNil)))) (gN 5) tYesW (dTup (dCons (dVar 5) (dCons (dOp oIx (dOp oIxN (dVar 0) (dVar 5)) (dC (.int 0))) (dCons (dOp oIx (dOp oIxN (dVar 0) (dVar 5)) (dC (.int 1))) (dCons (dOp oIx (dOp oIxN (dVar 0) (dVar 5)) (dC (.int 2))) dNil))))) [5]) (rEnv a b e rest none none none none) st =
      .ok (.lst ((srtL L).map rowW)) st := by
  have srt : cSortedN [.cell a] st = .ok ((srtL L).map fun l => nW l.1) st := by
    unfold cSortedN
    dsimp only
    rw [ha]
    dsimp only
    rw [List.map_map, show (Prod.fst ∘ lpE) = fun l : Lp => nW l.1 from rfl, dats_of (g := fun l : Lp => dN l.1) fun l _ => dat_nW l.1]
    dsimp only
    rw [if_pos (fitS_of (g := fun l : Lp => dN l.1) (fun x y => alN x.1 y.1) (fun l => ⟨_, _, rfl⟩) (fun l => dep_N l.1) (by omega)), sort_of]
    rfl
  refine rPure (rLc (rList (rPure (rCallF (rCons (rV rfl) rNil) srt))) ?_)
  have zl : (srtL L).length = L.length := List.length_mergeSort L
  refine (lc_calm True.intro (e2 := fun l : Lp => rEnv a b e rest none (some (nW l.1)) none none) (f := rowW) (srtL L) [] (fun l hl => ⟨rfl, rfl, ?_⟩) (by rw [zl]; simp; omega)).trans (by rw [List.nil_append])
  have lm : l ∈ L := (List.mergeSort_perm _ _).mem_iff.mp hl
  have g : dOp oIxN (dVar 0) (dVar 5) (rEnv a b e rest none (some (nW l.1)) none none) st = .ok (.tup [.str (sideOf l), .lst ((dep l).map nW), .lst ((plc l).map nW)]) st := by
    rw [← lpW_eq]
    exact rOp (rV rfl) (rV rfl) (ixN_at ha (nkT_nW _) (look_at nd lm))
  exact rTup (rCons (rV rfl) (rCons (rOp g rC (ix_at rfl (by decide) rfl)) (rCons (rOp g rC (ix_at rfl (by decide) rfl)) (rCons (rOp g rC (ix_at rfl (by decide) rfl)) rNil)))) (line_ge (show 4 ≤ 1024 by decide))
theorem pairs_loop {o4 : Option W} (nd : X.Pairwise fun x y => x.at' ≠ y.at' ∧ ¬ (x.one = y.one ∧ x.two = y.two)) : ∀ (Xs : List Xc) (acc : List W) (st : Store), dcell st b = some (X.map xE) → (∀ x ∈ Xs, x ∈ X ∧ lcell st x.at' = some (x.ov.map nW) ∧ x.at' ≠ b) → (Xs.Pairwise fun x y => x.at' ≠ y.at') → acc.length + Xs.length ≤ 1000000 →
    ∃ st', lcGo (fun _ => True) (gN 7) tYesW (dTup (dCons (dOp oIx (dVar 7) (dC (.int 0))) (dCons (dOp oIx (dVar 7) (dC (.int 1))) (dCons (dFz (dOp oIxN (dVar 1) (dVar 7))) dNil)))) (rEnv a b e rest o4 none none none) (Xs.map fun x => W.tup [nW x.one, nW x.two]) acc st = .ok (acc ++ Xs.map xrW) st' ∧ st'.length = st.length ∧ ∀ n, (∀ x ∈ Xs, n ≠ x.at') → st'[n]? = st[n]?
  | [], acc, st, hb, hx, pw, z => ⟨st, by rw [List.map_nil, lcGo, if_pos True.intro, List.map_nil, List.append_nil], rfl, fun _ _ => rfl⟩
  | x :: Xs, acc, st, hb, hx, pw, z => by
    obtain ⟨x1, x2, x3⟩ := hx x List.mem_cons_self
    rw [List.pairwise_cons] at pw
    rw [List.length_cons] at z
    obtain ⟨st', q1, q2, q3⟩ := pairs_loop nd Xs (acc ++ [xrW x]) (st.set x.at' .dead) (by rw [dcell_set_ne x3]; exact hb) (fun y hy => by
      obtain ⟨y1, y2, y3⟩ := hx y (List.mem_cons_of_mem _ hy)
      exact ⟨y1, by rw [lcell_set_ne (pw.1 y hy)]; exact y2, y3⟩) pw.2 (by rw [List.length_append, List.length_singleton]; omega)
    refine ⟨st', ?_, by rw [q2, List.length_set], fun n hn => by rw [q3 n fun y hy => hn y (List.mem_cons_of_mem _ hy), List.getElem?_set_ne (Ne.symm (hn x List.mem_cons_self))]⟩
    have g : dOp oIxN (dVar 1) (dVar 7) (rEnv a b e rest o4 none none (some (.tup [nW x.one, nW x.two]))) st = .ok (.cell x.at') st := rOp (rV rfl) (rV rfl) (ixN_at hb (nkT_pair _ _) (by rw [look_pair, find_pair nd x1]; rfl))
    have te : dTup (dCons (dOp oIx (dVar 7) (dC (.int 0))) (dCons (dOp oIx (dVar 7) (dC (.int 1))) (dCons (dFz (dOp oIxN (dVar 1) (dVar 7))) dNil))) (rEnv a b e rest o4 none none (some (.tup [nW x.one, nW x.two]))) st = .ok (xrW x) (st.set x.at' .dead) :=
      rTup (rCons (rOp (rV rfl) rC (ix_at rfl (by decide) rfl)) (rCons (rOp (rV rfl) rC (ix_at rfl (by decide) rfl)) (rCons (rFz g x2) rNil))) (line_ge (show 3 ≤ 1024 by decide))
    rw [List.map_cons, lcGo, if_pos True.intro, show gN 7 (W.tup [nW x.one, nW x.two]) (rEnv a b e rest o4 none none none) st = .ok (rEnv a b e rest o4 none none (some (.tup [nW x.one, nW x.two]))) st from rfl]
    show (Out.ok true st).nox.bind _ = _
    rw [Out.nox_ok, Out.bind_ok, if_pos rfl, te, Out.nox_ok, Out.bind_ok, if_pos (big_lt (by omega)), q1, List.append_assoc]
    rfl
/-- the fabric's record -/
def recW (L : List Lp) (X : List Xc) (rest : W) (dr : List Nm) : W := .tup [.lst ((srtL L).map rowW), .lst ((srtX X).map xrW), rest, .lst ((srtN dr).map nW)]
theorem record_run {st : Store} {g0 k : Nat} (ha : dcell st a = some (L.map lpE)) (nd : (L.map (·.1)).Nodup) (z : L.length ≤ 500000) (A : XAt st g0 b X k) (hk : k ≤ 500000) (he : lcell st e = some (dr.map nW)) (eg : e < g0) (zd : dr.length ≤ 500000) :
    ∃ st', m_record [.cell a, .cell b, rest, .cell e] st = .ok (recW L X rest dr) st' ∧ st'.length = st.length ∧ ∀ n, n < g0 → st'[n]? = st[n]? := by
  have zx := A.sz.1
  have srt : cSortedN [.cell b] st = .ok ((srtX X).map fun x => W.tup [nW x.one, nW x.two]) st := by
    unfold cSortedN
    dsimp only
    rw [A.db]
    dsimp only
    rw [List.map_map, show (Prod.fst ∘ xE) = fun x : Xc => W.tup [nW x.one, nW x.two] from rfl, dats_of (g := dX) fun x _ => rfl]
    dsimp only
    rw [if_pos (fitS_of (g := dX) alX (fun l => ⟨_, _, rfl⟩) dep_X (by omega)), sort_of]
    rfl
  have mem : ∀ x, x ∈ srtX X ↔ x ∈ X := fun x => (List.mergeSort_perm X _).mem_iff
  obtain ⟨st', q1, q2, q3⟩ := pairs_loop (a := a) (e := e) (rest := rest) (o4 := some (.lst ((srtL L).map rowW))) A.nd (srtX X) [] st A.db (fun x hx => ⟨(mem x).mp hx, A.cells x ((mem x).mp hx), by have := A.ge x ((mem x).mp hx); have := A.lt.1; omega⟩)
    ((List.mergeSort_perm X _).symm.pairwise (A.nd.imp fun h => h.1) fun h => Ne.symm h) (by rw [show (srtX X).length = X.length from List.length_mergeSort X]; simp; omega)
  have e3 : lcell st' e = some (dr.map nW) := by
    unfold lcell at he ⊢
    rw [q3 e fun x hx => by have := A.ge x ((mem x).mp hx); omega]
    exact he
  have srd : cSortedD [.cell e] st' = .ok ((srtN dr).map nW) st' := by
    unfold cSortedD
    dsimp only
    rw [show lview (.cell e) st' = lcell st' e from rfl, e3]
    dsimp only
    rw [dats_of (g := dN) fun n _ => dat_nW n]
    dsimp only
    rw [if_pos (fitS_of (g := dN) alN (fun l => ⟨_, _, rfl⟩) dep_N (by omega)), sort_of]
    rfl
  refine ⟨st', body_rt rfl ?_, q2, fun n hn => q3 n fun x hx => by have := A.ge x ((mem x).mp hx); omega⟩
  refine sSeq_at (sSet_at (rows_run ha nd z)) (sSeq_at (sSet_at (rPure (rLc (rList (rPure (rCallF (rCons (rV rfl) rNil) srt))) q1))) ?_)
  rw [List.nil_append]
  exact sRet_at (rTup (rCons (rV rfl) (rCons (rV rfl) (rCons (rV rfl) (rCons (rPure (rCallF (rCons (rV rfl) rNil) srd)) rNil)))) (line_ge (show 4 ≤ 1024 by decide)))
end
end Sh


set_option maxRecDepth 100000
set_option maxHeartbeats 4000000
/-! the fabric of a chart -/
namespace Sh
open PySem L2 Evl PySem.W
def restW (row : List Nm) : W := .lst (row.map fun n => W.lst [nW n])
/-- what is true of a fabric -/
structure Fab (row : List Nm) (L : List Lp) (dr : List Nm) (X : List Xc) (z : Nat) : Prop where
  wi : Wi row L dr
  lo : LOk L
  cn : Cnt L
  ll : L.length ≤ z
  xl : ∃ k, L.length + k ≤ z ∧ X.length ≤ k ∧ (X.map fun x => x.ov.length).sum ≤ k
  xn : ∀ x ∈ X, nOk x.one ∧ nOk x.two ∧ ∀ n ∈ x.ov, nOk n
variable [Wd]
theorem fabric_run' {st0 : Store} {ls : List Line} {c : Int} {w0 : W} {ok : Store → Prop} (hok : ∀ st, (∀ n, n < st0.length → st[n]? = st0[n]?) → ok st) (hl : ∀ l ∈ ls, l.ok) (f : FitR 0 ls c) (z : cost ls ≤ 100000)
    (hi : ∀ (env : Env) st, env[0]? = some (some w0) → (∀ n, n < st0.length → st[n]? = st0[n]?) → iL (dVar 0) env st = .ok ⟨ls.map lW, ok⟩ st) :
    ∃ (row : List Nm) (L : List Lp) (dr : List Nm) (X : List Xc) (st' : Store), m_fabric [w0] st0 = .ok (recW L X (restW row) dr) st' ∧ Fab row L dr X (cost ls) ∧ c = (row.length : Int) ∧ row.length ≤ 320 ∧ st0.length ≤ st'.length ∧ (∀ n, n < st0.length → st'[n]? = st0[n]?) ∧ (Work ls → (row, L, dr) = wlns ls ([], [], [])) := by
  obtain ⟨row, L, dr, X, k, st1, e1, D, hc, h1, h3⟩ := done_run' hok hl f z hi
  have wl := D.wi.le
  have ll := D.x.lt.2
  have hx := D.x.sz
  obtain ⟨st2, e2, l2, f2⟩ := record_run (rest := restW row) D.at'.la D.wi.nd (by omega) D.x (by omega) D.at'.le (by omega) (by omega)
  refine ⟨row, L, dr, X, st2, body_rt rfl ?_, ⟨D.wi, D.lo, D.at'.cn, by omega, ⟨k, h1, hx.1, D.x.tot⟩, D.x.nm⟩, hc, D.r, by omega, fun n hn => (f2 n (by omega)).trans (D.fr n hn), h3⟩
  have i : ∀ (j : Nat) (w : W) (s : Store), ([.lst (row.map nW), .cell st0.length, .cell (st0.length + 1), .cell (st0.length + 2), .cell (st0.length + 3)] : List W)[j]? = some w → dOp oIx (dVar 1) (dC (.int (j : Int))) [some w0, some (world row st0.length (st0.length + 1) (st0.length + 2) (st0.length + 3)), none] s = .ok w s := fun j w s h =>
    rOp (x := world row st0.length (st0.length + 1) (st0.length + 2) (st0.length + 3)) (rV rfl) rC (ix_at rfl (Int.natCast_nonneg j) (by rw [Int.toNat_natCast]; exact h))
  have rs : dPure (dLc (iL (dOp oIx (dVar 1) (dC (.int 0)))) (gN 2) tYesW (dPure (dLst (dCons (dVar 2) dNil))) [2]) [some w0, some (world row st0.length (st0.length + 1) (st0.length + 2) (st0.length + 3)), none] st1 = .ok (restW row) st1 := by
    refine rPure (rLc (rList (i 0 _ _ rfl)) ?_)
    have r := D.r
    exact (lc_calm True.intro (e2 := fun n : Nm => [some w0, some (world row st0.length (st0.length + 1) (st0.length + 2) (st0.length + 3)), some (nW n)]) (f := fun n => W.lst [nW n]) row [] (fun n hn => ⟨rfl, rfl, rPure (rLst (rCons (rV rfl) rNil) (line_ge (show 1 ≤ 1024 by decide)))⟩) (by simp; omega)).trans (by rw [List.nil_append])
  exact sSeq_at (sSet_at (rCall (rCons (rV rfl) rNil) e1)) (sRet_at (rCall (rCons (i 1 _ _ rfl) (rCons (i 2 _ _ rfl) (rCons rs (rCons (i 3 _ _ rfl) rNil)))) e2))
theorem fabric_run {st0 : Store} {ls : List Line} {c : Int} {w0 : W} {ok : Store → Prop} (hok : ∀ st, (∀ n, n < st0.length → st[n]? = st0[n]?) → ok st) (hl : ∀ l ∈ ls, l.ok) (f : FitR 0 ls c) (z : cost ls ≤ 100000)
    (hi : ∀ (env : Env) st, env[0]? = some (some w0) → (∀ n, n < st0.length → st[n]? = st0[n]?) → iL (dVar 0) env st = .ok ⟨ls.map lW, ok⟩ st) :
    ∃ (row : List Nm) (L : List Lp) (dr : List Nm) (X : List Xc) (st' : Store), m_fabric [w0] st0 = .ok (recW L X (restW row) dr) st' ∧ Fab row L dr X (cost ls) ∧ c = (row.length : Int) ∧ row.length ≤ 320 ∧ st0.length ≤ st'.length ∧ ∀ n, n < st0.length → st'[n]? = st0[n]? := by
  obtain ⟨row, L, dr, X, st', a, b, c, d, e, g, _⟩ := fabric_run' hok hl f z hi
  exact ⟨row, L, dr, X, st', a, b, c, d, e, g⟩
end Sh


set_option maxRecDepth 100000
set_option maxHeartbeats 4000000
/-! loops that come undone -/
namespace Sh
open PySem L2 Evl PySem.W
/-- a row of a fabric: the name, what it was drawn through -/
abbrev Rr := Nm × List Nm
theorem look_nm {α : Type} (key : α → Nm) (val : α → W) (a : Nm) : ∀ xs : List α, lookW (xs.map fun x => (nW (key x), val x)) (nKey a) = (xs.find? fun x => decide (key x = a)).map val
  | [] => rfl
  | x :: xs => by
    have ih := look_nm key val a xs
    unfold lookW at ih ⊢
    rw [List.map_cons, List.find?_cons, List.find?_cons]
    by_cases h : key x = a
    · rw [decide_eq_true h, decide_eq_true (show nkW (nW (key x), val x).1 = some (nKey a) by rw [← h]; exact nk_nW _)]
      rfl
    · rw [decide_eq_false h, decide_eq_false (show ¬ nkW (nW (key x), val x).1 = some (nKey a) from fun z => h (nKey_inj (Option.some.inj ((nk_nW (key x)).symm.trans z))))]
      exact ih
def rE (r : Rr) : W × W := (nW r.1, .lst (r.2.map nW))
def fE (a : Nm) : W × W := (nW a, .bl true)
def unx (R : List Rr) (F : List Nm) : List Nm := (R.filter fun q => decide (q.1 ∉ F)).flatMap (·.2)
structure Und (R : List Rr) (dr : List Nm) : Prop where
  nd : (R.map (·.1)).Nodup
  one : ∀ a, (dr ++ R.flatMap (·.2)).count a ≤ 1
  sub : ∀ a ∈ dr ++ R.flatMap (·.2), a ∈ R.map (·.1)
  z : R.length ≤ 200000 ∧ (dr ++ R.flatMap (·.2)).length ≤ 200000
def DF (R : List Rr) (dr F Wt : List Nm) : Prop := ∀ a, (F ++ Wt ++ unx R F).count a = (dr ++ R.flatMap (·.2)).count a
theorem unx_same {R : List Rr} {F : List Nm} {x : Nm} (h : x ∉ R.map (·.1)) : unx R (F ++ [x]) = unx R F := by
  unfold unx
  congr 1
  refine List.filter_congr fun q hq => ?_
  have ne : q.1 ≠ x := fun e => h (e ▸ List.mem_map.mpr ⟨q, hq, rfl⟩)
  have : q.1 ∉ F ++ [x] ↔ q.1 ∉ F := by simp [ne]
  simp only [this]
theorem unx_step {r : Rr} {F : List Nm} (hF : r.1 ∉ F) (a : Nm) : ∀ {R : List Rr}, (R.map (·.1)).Nodup → r ∈ R → (unx R F).count a = (unx R (F ++ [r.1])).count a + r.2.count a
  | q :: R, nd, h => by
    rw [List.map_cons, List.nodup_cons] at nd
    rcases List.mem_cons.mp h with rfl | h
    · have e := unx_same (F := F) nd.1
      unfold unx at e ⊢
      rw [List.filter_cons, if_pos (decide_eq_true hF), List.filter_cons, if_neg (by simp), e, List.flatMap_cons, List.count_append]
      omega
    · have ne : q.1 ≠ r.1 := fun e => nd.1 (e ▸ List.mem_map.mpr ⟨r, h, rfl⟩)
      have ih := unx_step hF a nd.2 h
      unfold unx at ih ⊢
      by_cases hq : q.1 ∉ F
      · rw [List.filter_cons, if_pos (decide_eq_true hq), List.filter_cons, if_pos (decide_eq_true (show q.1 ∉ F ++ [r.1] by simp [ne, hq])), List.flatMap_cons, List.flatMap_cons, List.count_append, List.count_append]
        omega
      · rw [List.filter_cons, if_neg (by simpa using hq), List.filter_cons, if_neg (by simp; exact fun z => absurd z hq), ih]
theorem df_len {R : List Rr} {dr F Wt : List Nm} (U : Und R dr) (D : DF R dr F Wt) : F.length + Wt.length + (unx R F).length ≤ 200000 := by
  have := (List.perm_iff_count.mpr D).length_eq
  rw [List.length_append, List.length_append] at this
  have := U.z.2
  omega
theorem df_pop {R : List Rr} {dr F Wt : List Nm} {x : Nm} (U : Und R dr) (D : DF R dr F (Wt ++ [x])) : x ∉ F ∧ ∃ r ∈ R, r.1 = x ∧ DF R dr (F ++ [x]) (Wt ++ r.2) := by
  have q := D x
  have o := U.one x
  have nx : x ∉ F := fun h => by
    have := List.count_pos_iff.mpr h
    simp only [List.count_append, List.count_singleton_self] at q o
    omega
  have hx : x ∈ dr ++ R.flatMap (·.2) := List.count_pos_iff.mp (by
    rw [← q]
    simp only [List.count_append, List.count_singleton_self]
    omega)
  obtain ⟨r, hr, e⟩ := List.mem_map.mp (U.sub x hx)
  subst e
  refine ⟨nx, r, hr, rfl, fun a => ?_⟩
  have s := unx_step nx a U.nd hr
  have d := D a
  simp only [List.count_append] at s d ⊢
  omega
/-- at the end -/
theorem df_end {R : List Rr} {dr F : List Nm} (U : Und R dr) (D : DF R dr F []) : F.Nodup ∧ (∀ a ∈ F, a ∈ R.map (·.1)) ∧ ∀ a, a ∈ F ↔ a ∈ dr ∨ ∃ r ∈ R, r.1 ∈ F ∧ a ∈ r.2 := by
  have split : ∀ (a : Nm) (R : List Rr), (R.flatMap (·.2)).count a = ((R.filter fun q => decide (q.1 ∈ F)).flatMap (·.2)).count a + (unx R F).count a := fun a R => by
    induction R with
    | nil => rfl
    | cons q R ih =>
      unfold unx at ih ⊢
      rw [List.flatMap_cons, List.count_append, ih]
      by_cases h : q.1 ∈ F
      · rw [List.filter_cons, if_pos (decide_eq_true h), List.filter_cons, if_neg (by simpa using h), List.flatMap_cons, List.count_append]; omega
      · rw [List.filter_cons, if_neg (by simpa using h), List.filter_cons, if_pos (decide_eq_true h), List.flatMap_cons, List.count_append]; omega
  have key : ∀ a, F.count a = dr.count a + ((R.filter fun q => decide (q.1 ∈ F)).flatMap (·.2)).count a := fun a => by
    have d := D a
    have s := split a R
    simp only [List.count_append, List.append_nil] at d s
    omega
  have le : ∀ a, F.count a ≤ 1 := fun a => by
    have d := D a
    have o := U.one a
    simp only [List.count_append, List.append_nil] at d o
    omega
  refine ⟨List.nodup_iff_count.mpr le, fun a ha => U.sub a (List.count_pos_iff.mp ?_), fun a => ⟨fun ha => ?_, fun ha => ?_⟩⟩
  · have := List.count_pos_iff.mpr ha
    have d := D a
    simp only [List.count_append, List.append_nil] at d ⊢
    omega
  · have := List.count_pos_iff.mpr ha
    have k := key a
    by_cases h : 0 < dr.count a
    · exact .inl (List.count_pos_iff.mp h)
    · have h2 : 0 < ((R.filter fun q => decide (q.1 ∈ F)).flatMap (·.2)).count a := by omega
      obtain ⟨r, hr, hm⟩ := List.mem_flatMap.mp (List.count_pos_iff.mp h2)
      obtain ⟨h3, h4⟩ := List.mem_filter.mp hr
      exact .inr ⟨r, h3, of_decide_eq_true h4, hm⟩
  · refine List.count_pos_iff.mp ?_
    have k := key a
    rcases ha with h | ⟨r, h1, h2, h3⟩
    · have := List.count_pos_iff.mpr h
      omega
    · have := List.count_pos_iff.mpr (show a ∈ (R.filter fun q => decide (q.1 ∈ F)).flatMap (·.2) from List.mem_flatMap.mpr ⟨r, List.mem_filter.mpr ⟨h1, decide_eq_true h2⟩, h3⟩)
      omega
end Sh


set_option maxRecDepth 100000
set_option maxHeartbeats 4000000
/-! undone, reckoned -/
namespace Sh
open PySem L2 Evl PySem.W
variable [Wd]
noncomputable def b_undone : S :=
  (sSeq (sSet 1 (dDcN (iL (dOp oIx (dVar 0) (dC (.int 0)))) (gN 2) tYesW (dOp oIx (dVar 2) (dC (.int 0))) (dOp oIx (dVar 2) (dC (.int 2))) [2]))
  (sSeq (sSet 3 dDictN)
  (sSeq (sSet 4 (dCell (dCallF cList (dCons (dOp oIx (dVar 0) (dC (.int 3))) dNil))))
  (sSeq (sWhile fuel (dTru (dVar 4))
  (sSeq (sSet 5 (dBM0 tyL mPop (dVar 4)))
  (sIf (dB (dOp (oInN true) (dVar 5) (dVar 3)))
  (sSeq (sAsg (gAtN (dVar 3) (dVar 5)) (dC (.bl true)))
  (sDrop (dBM tyL mExtend (dVar 4) (dCons (dOp oIxN (dVar 1) (dVar 5)) dNil))))
  sNil)))
  (sRet (dPure (dCallF cSortedN (dCons (dVar 3) dNil))))))))
noncomputable def m_undone : List W → M W := dBody 1 6 b_undone
noncomputable abbrev unBody : S :=
  (sSeq (sSet 5 (dBM0 tyL mPop (dVar 4)))
  (sIf (dB (dOp (oInN true) (dVar 5) (dVar 3)))
  (sSeq (sAsg (gAtN (dVar 3) (dVar 5)) (dC (.bl true)))
  (sDrop (dBM tyL mExtend (dVar 4) (dCons (dOp oIxN (dVar 1) (dVar 5)) dNil))))
  sNil))
abbrev uEnv (w0 : W) (u fo wa : Nat) (o2 o5 : Option W) : Env := [some w0, some (.cell u), o2, some (.cell fo), some (.cell wa), o5]
theorem while_nx {t : Env → M Bool} {body : S} {n : Nat} {env env1 : Env} {st st1 st2 : Store} (h : t env st = .ok true st1) (k : body env st1 = .nx env1 st2) : whileGo t body (n + 1) env st = whileGo t body n env1 st2 := by
  rw [whileGo, h, Out.bindS_ok, if_pos rfl, k]
theorem while_end {t : Env → M Bool} {body : S} {n : Nat} {env : Env} {st st1 : Store} (h : t env st = .ok false st1) : whileGo t body (n + 1) env st = .nx env st1 := by
  rw [whileGo, h, Out.bindS_ok, if_neg (by decide)]
theorem tru_cell {i n : Nat} {env : Env} {st : Store} {xs : List W} (h : env[i]? = some (some (.cell n))) (k : lcell st n = some xs) : dTru (dVar i) env st = .ok (!xs.isEmpty) st := by
  unfold dTru
  rw [rV h, Out.bind_ok]
  unfold asTru
  dsimp only
  rw [sview_cell, k]
omit [Wd] in
theorem find_row {r : Rr} : ∀ {R : List Rr}, (R.map (·.1)).Nodup → r ∈ R → R.find? (fun x => decide (x.1 = r.1)) = some r
  | q :: R, nd, h => by
    rw [List.map_cons, List.nodup_cons] at nd
    rw [List.find?_cons]
    rcases List.mem_cons.mp h with rfl | h
    · rw [decide_eq_true rfl]
    · rw [decide_eq_false (show ¬ q.1 = r.1 from fun e => nd.1 (by rw [e]; exact List.mem_map.mpr ⟨r, h, rfl⟩))]
      exact find_row nd.2 h
section
variable {R : List Rr} {dr : List Nm} {w0 : W} {u fo wa : Nat} {o2 : Option W}
theorem und_loop (U : Und R dr) (n1 : u ≠ fo) (n2 : u ≠ wa) (n3 : fo ≠ wa) : ∀ (n : Nat) (F Wt : List Nm) (st : Store) (o5 : Option W), dcell st u = some (R.map rE) → dcell st fo = some (F.map fE) → lcell st wa = some (Wt.map nW) → DF R dr F Wt → 200000 < n + F.length →
    ∃ (F' : List Nm) (st' : Store) (o5' : Option W), whileGo (dTru (dVar 4)) unBody n (uEnv w0 u fo wa o2 o5) st = .nx (uEnv w0 u fo wa o2 o5') st' ∧ dcell st' fo = some (F'.map fE) ∧ DF R dr F' [] ∧ st'.length = st.length ∧ ∀ k, k ≠ fo → k ≠ wa → st'[k]? = st[k]?
  | 0, F, Wt, st, o5, hu, hf, hw, D, z => by
    have := df_len U D
    omega
  | n + 1, F, Wt, st, o5, hu, hf, hw, D, z => by
    have dl := df_len U D
    have t : dTru (dVar 4) (uEnv w0 u fo wa o2 o5) st = .ok (!(Wt.map nW).isEmpty) st := tru_cell rfl hw
    rcases List.eq_nil_or_concat Wt with e | ⟨W', x, e⟩
    · subst e
      exact ⟨F, st, o5, while_end t, hf, D, rfl, fun _ _ _ => rfl⟩
    · rw [List.concat_eq_append] at e
      subst e
      obtain ⟨nx, r, hr, e1, D'⟩ := df_pop U D
      subst e1
      have t1 : dTru (dVar 4) (uEnv w0 u fo wa o2 o5) st = .ok true st := by
        rw [t, List.map_append]
        cases W' <;> rfl
      have wl := lcell_lt hw
      have fl := dcell_lt hf
      rw [List.length_append, List.length_singleton] at dl
      have s5 : sSet 5 (dBM0 tyL mPop (dVar 4)) (uEnv w0 u fo wa o2 o5) st = .nx (uEnv w0 u fo wa o2 (some (nW r.1))) (st.set wa (.lst (W'.map nW))) := by
        refine sSet_at ?_
        unfold dBM0
        rw [rV (w := .cell wa) rfl, Out.bind_ok, tyL_cell hw]
        unfold mPop
        simp only [hw]
        have q : ((W' ++ [r.1]).map nW)[((W' ++ [r.1]).map nW).length - 1]? = some (nW r.1) := by
          rw [List.map_append, List.length_append, List.length_map]
          simp
        rw [q]
        have q2 : ((W' ++ [r.1]).map nW).dropLast = W'.map nW := by rw [List.map_append]; simp
        rw [q2]
        rfl
      have hf1 : dcell (st.set wa (.lst (W'.map nW))) fo = some (F.map fE) := by rw [dcell_set_ne n3.symm]; exact hf
      have lk : lookW (F.map fE) (nKey r.1) = none := by
        have := look_nm (fun a : Nm => a) (fun _ => W.bl true) r.1 F
        rw [show F.map fE = F.map fun x => (nW x, W.bl true) from rfl, this, List.find?_eq_none.mpr fun y hy => by simpa using (show ¬ y = r.1 from fun z => nx (by rw [← z]; exact hy))]
        rfl
      have inn : dOp (oInN true) (dVar 5) (dVar 3) (uEnv w0 u fo wa o2 (some (nW r.1))) (st.set wa (.lst (W'.map nW))) = .ok (.bl true) (st.set wa (.lst (W'.map nW))) := by
        refine rOp (rV rfl) (rV rfl) ?_
        unfold oInN
        dsimp only
        rw [hf1, nkT_nW]
        dsimp only
        rw [lk]
        rfl
      have pf : putW (F.map fE) (nKey r.1) (nW r.1) (.bl true) = (F ++ [r.1]).map fE := by
        unfold putW
        rw [lk, if_neg (by decide), List.map_append]
        rfl
      have sf := gAtN_at (o := dVar 3) (ix := dVar 5) (w := .bl true) (env := uEnv w0 u fo wa o2 (some (nW r.1))) (st := st.set wa (.lst (W'.map nW))) (rV rfl) (rV rfl) hf1 (nkT_nW _) (by rw [List.length_map]; omega)
      rw [pf] at sf
      generalize hs2 : (st.set wa (C.lst (W'.map nW))).set fo (.dN ((F ++ [r.1]).map fE)) = st2 at sf
      have hu2 : dcell st2 u = some (R.map rE) := by rw [← hs2, dcell_set_ne n1.symm, dcell_set_ne n2.symm]; exact hu
      have hw2 : lcell st2 wa = some (W'.map nW) := by rw [← hs2, lcell_set_ne n3, lcell_set wl]
      have lu : lookW (R.map rE) (nKey r.1) = some (.lst (r.2.map nW)) := by
        have q := look_nm (fun q : Rr => q.1) (fun q : Rr => W.lst (q.2.map nW)) r.1 R
        rw [show R.map rE = R.map fun x => (nW x.1, W.lst (x.2.map nW)) from rfl, q, find_row U.nd hr]
        rfl
      have ex : sDrop (dBM tyL mExtend (dVar 4) (dCons (dOp oIxN (dVar 1) (dVar 5)) dNil)) (uEnv w0 u fo wa o2 (some (nW r.1))) st2 = .nx (uEnv w0 u fo wa o2 (some (nW r.1))) (st2.set wa (.lst (W'.map nW ++ r.2.map nW))) :=
        sDrop_at (rBM (rV rfl) (tyL_cell hw2) (rCons (rOp (rV rfl) (rV rfl) (ixN_at hu2 (nkT_nW _) lu)) rNil) (ext_at hw2 rfl (by
          have := df_len U D'
          rw [List.length_append, List.length_append] at this
          rw [List.length_map, List.length_map]
          omega)))
      have l2 : st2.length = st.length := by rw [← hs2, List.length_set, List.length_set]
      obtain ⟨F', st', o5', e2, q1, q2, q3, q4⟩ := und_loop U n1 n2 n3 n (F ++ [r.1]) (W' ++ r.2) (st2.set wa (.lst (W'.map nW ++ r.2.map nW))) (some (nW r.1)) (by rw [dcell_set_ne n2.symm]; exact hu2) (by rw [dcell_set_ne n3.symm, ← hs2, dcell_set (by rw [List.length_set]; exact fl)])
        (by rw [lcell_set (by rw [l2]; exact wl), List.map_append]) D' (by rw [List.length_append, List.length_singleton]; omega)
      refine ⟨F', st', o5', ?_, q1, q2, by rw [q3, List.length_set, l2], fun k k1 k2 => ?_⟩
      · rw [while_nx t1 (sSeq_at s5 (sIf_t (rB inn) (sSeq_at (sAsg_at rC sf) ex)))]
        exact e2
      · rw [q4 k k1 k2, List.getElem?_set_ne (Ne.symm k2), ← hs2, List.getElem?_set_ne (Ne.symm k1), List.getElem?_set_ne (Ne.symm k2)]
end
end Sh


set_option maxRecDepth 100000
set_option maxHeartbeats 4000000
namespace Sh
open PySem L2 Evl PySem.W
variable [Wd]
section
variable {α : Type} {nm : α → Nm} {dp : α → List Nm} {f : α → W}
theorem dc_rows (i0 : ∀ a s, oIx (f a) (.int 0) s = .ok (nW (nm a)) s) (i2 : ∀ a s, oIx (f a) (.int 2) s = .ok (.lst ((dp a).map nW)) s) {w0 : W} {n : Nat} {o3 o4 o5 : Option W} : ∀ (as : List α) (acc : List Rr) (st : Store), dcell st n = some (acc.map rE) → ((acc ++ as.map fun a => (nm a, dp a)).map (·.1)).Nodup → acc.length + as.length ≤ 900000 →
    ∃ st', dcGo (fun _ => True) (gN 2) tYesW (dOp oIx (dVar 2) (dC (.int 0))) (dOp oIx (dVar 2) (dC (.int 2))) [some w0, none, none, o3, o4, o5] n (as.map f) st = .ok (.cell n) st' ∧ dcell st' n = some ((acc ++ as.map fun a => (nm a, dp a)).map rE) ∧ st'.length = st.length ∧ ∀ k, k ≠ n → st'[k]? = st[k]?
  | [], acc, st, h, nd, z => ⟨st, by rw [List.map_nil, dcGo, if_pos True.intro], by rw [List.map_nil, List.append_nil]; exact h, rfl, fun _ _ => rfl⟩
  | a :: as, acc, st, h, nd, z => by
    rw [List.length_cons] at z
    rw [List.map_cons, show acc ++ (nm a, dp a) :: as.map (fun a => (nm a, dp a)) = (acc ++ [(nm a, dp a)]) ++ as.map (fun a => (nm a, dp a)) by rw [List.append_assoc]; rfl] at nd
    have nl : lookW (acc.map rE) (nKey (nm a)) = none := by
      have q := look_nm (fun q : Rr => q.1) (fun q : Rr => W.lst (q.2.map nW)) (nm a) acc
      rw [show acc.map rE = acc.map fun x => (nW x.1, W.lst (x.2.map nW)) from rfl, q, List.find?_eq_none.mpr fun y hy => ?_]
      · rfl
      · have ny : ¬ y.1 = nm a := fun e => by
          rw [List.map_append, List.map_append, List.append_assoc] at nd
          have := (List.nodup_append.mp nd).2.2 y.1 (List.mem_map.mpr ⟨y, hy, rfl⟩) (nm a) (List.mem_append_left _ List.mem_cons_self)
          exact this e
        simpa using ny
    have pf : putW (acc.map rE) (nKey (nm a)) (nW (nm a)) (.lst ((dp a).map nW)) = (acc ++ [(nm a, dp a)]).map rE := by
      unfold putW
      rw [nl, if_neg (by decide), List.map_append]
      rfl
    have nl' := dcell_lt h
    obtain ⟨st', q1, q2, q3, q4⟩ := dc_rows i0 i2 (w0 := w0) (n := n) (o3 := o3) (o4 := o4) (o5 := o5) as (acc ++ [(nm a, dp a)]) (st.set n (.dN ((acc ++ [(nm a, dp a)]).map rE))) (dcell_set nl') nd (by rw [List.length_append, List.length_singleton]; omega)
    refine ⟨st', ?_, by rw [q2, List.append_assoc]; rfl, by rw [q3, List.length_set], fun k hk => by rw [q4 k hk, List.getElem?_set_ne (Ne.symm hk)]⟩
    rw [List.map_cons, dcGo, if_pos True.intro, show gN 2 (f a) [some w0, none, none, o3, o4, o5] st = .ok [some w0, none, some (f a), o3, o4, o5] st from rfl]
    show (Out.ok true st).nox.bind _ = _
    rw [Out.nox_ok, Out.bind_ok, if_pos rfl, rOp (da := dVar 2) (db := dC (.int 0)) (x := f a) (y := .int 0) (env := [some w0, none, some (f a), o3, o4, o5]) (st := st) (rV rfl) rC (i0 a st), Out.nox_ok, Out.bind_ok, rOp (da := dVar 2) (db := dC (.int 2)) (x := f a) (y := .int 2) (env := [some w0, none, some (f a), o3, o4, o5]) (st := st) (rV rfl) rC (i2 a st), Out.nox_ok, Out.bind_ok]
    rw [h, nkT_nW]
    dsimp only
    rw [if_pos (big_lt (by rw [List.length_map]; omega)), pf]
    exact q1
theorem undone_run (i0 : ∀ a s, oIx (f a) (.int 0) s = .ok (nW (nm a)) s) (i2 : ∀ a s, oIx (f a) (.int 2) s = .ok (.lst ((dp a).map nW)) s) {as : List α} {dr : List Nm} {p1 p2 : W} {st : Store} (U : Und (as.map fun a => (nm a, dp a)) dr) :
    ∃ (F : List Nm) (st' : Store), m_undone [.tup [.lst (as.map f), p1, p2, .lst (dr.map nW)]] st = .ok (.lst ((srtN F).map nW)) st' ∧ DF (as.map fun a => (nm a, dp a)) dr F [] ∧ st.length ≤ st'.length ∧ ∀ k, k < st.length → st'[k]? = st[k]? := by
  generalize hw : W.tup [.lst (as.map f), p1, p2, .lst (dr.map nW)] = w0
  have x0 : ∀ (env : Env) s, env[0]? = some (some w0) → dOp oIx (dVar 0) (dC (.int 0)) env s = .ok (.lst (as.map f)) s := fun env s h => rOp (rV h) rC (by rw [← hw]; exact ix_at rfl (by decide) rfl)
  have x3 : ∀ (env : Env) s, env[0]? = some (some w0) → dOp oIx (dVar 0) (dC (.int 3)) env s = .ok (.lst (dr.map nW)) s := fun env s h => rOp (rV h) rC (by rw [← hw]; exact ix_at rfl (by decide) rfl)
  have uz := U.z.1
  rw [List.length_map] at uz
  obtain ⟨st1, q1, q2, q3, q4⟩ := dc_rows (nm := nm) (dp := dp) (f := f) i0 i2 (w0 := w0) (n := st.length) (o3 := none) (o4 := none) (o5 := none) as [] (st ++ [.dN []]) (by
    unfold dcell
    rw [List.getElem?_append_right (Nat.le_refl _), Nat.sub_self]
    rfl) (by rw [List.nil_append]; exact U.nd) (by show 0 + _ ≤ _; omega)
  rw [List.nil_append] at q2
  have l1 : st1.length = st.length + 1 := by rw [q3, List.length_append]; rfl
  generalize hn : st.length = n at q1 q2 q4 l1
  have s1 : sSet 1 (dDcN (iL (dOp oIx (dVar 0) (dC (.int 0)))) (gN 2) tYesW (dOp oIx (dVar 2) (dC (.int 0))) (dOp oIx (dVar 2) (dC (.int 2))) [2]) [some w0, none, none, none, none, none] st = .nx [some w0, some (.cell n), none, none, none, none] st1 := by
    refine sSet_at ?_
    unfold dDcN
    rw [rList (x0 _ _ rfl), Out.bind_ok, hn]
    exact q1
  have s3 : sSet 3 dDictN [some w0, some (.cell n), none, none, none, none] st1 = .nx [some w0, some (.cell n), none, some (.cell (n + 1)), none, none] (st1 ++ [.dN []]) := by
    have : dDictN [some w0, some (.cell n), none, none, none, none] st1 = .ok (.cell st1.length) (st1 ++ [.dN []]) := rfl
    rw [l1] at this
    exact sSet_at this
  have s4 : sSet 4 (dCell (dCallF cList (dCons (dOp oIx (dVar 0) (dC (.int 3))) dNil))) [some w0, some (.cell n), none, some (.cell (n + 1)), none, none] (st1 ++ [.dN []]) = .nx (uEnv w0 n (n + 1) (n + 2) none none) (st1 ++ [.dN [], .lst (dr.map nW)]) := by
    have := sSet_at (i := 4) (rCell (rCallF (f := cList) (xs := dr.map nW) (rCons (x3 [some w0, some (.cell n), none, some (.cell (n + 1)), none, none] (st1 ++ [.dN []]) rfl) rNil) rfl))
    rw [List.length_append, l1, List.append_assoc] at this
    exact this
  have gi : ∀ i, (st1 ++ [C.dN [], C.lst (dr.map nW)])[n + 1 + i]? = ([.dN [], .lst (dr.map nW)] : Store)[i]? := fun i => by
    rw [List.getElem?_append_right (by omega)]
    congr 1
    omega
  obtain ⟨F, st2, o5, e, r1, r2, r3, r4⟩ := und_loop (w0 := w0) (o2 := none) U (show n ≠ n + 1 by omega) (show n ≠ n + 2 by omega) (show n + 1 ≠ n + 2 by omega) 1000000 [] dr (st1 ++ [.dN [], .lst (dr.map nW)]) none
    (by
      unfold dcell at q2 ⊢
      rw [List.getElem?_append_left (by omega)]
      exact q2)
    (by
      unfold dcell
      rw [show (st1 ++ [C.dN [], C.lst (dr.map nW)])[n + 1]? = _ from gi 0]
      rfl)
    (by
      unfold lcell
      rw [show (st1 ++ [C.dN [], C.lst (dr.map nW)])[n + 2]? = _ from gi 1]
      rfl)
    (fun a => by
      have : unx (as.map fun a => (nm a, dp a)) [] = (as.map fun a => (nm a, dp a)).flatMap (·.2) := by
        unfold unx
        congr 1
        exact List.filter_eq_self.mpr fun _ _ => rfl
      rw [this, List.nil_append]) (by show 200000 < 1000000 + 0; decide)
  have fl := df_len U r2
  have srt : cSortedN [.cell (n + 1)] st2 = .ok ((srtN F).map nW) st2 := by
    unfold cSortedN
    dsimp only
    rw [r1]
    dsimp only
    rw [List.map_map, show (Prod.fst ∘ fE) = nW from rfl, dats_of (g := dN) fun a _ => dat_nW a]
    dsimp only
    rw [if_pos (fitS_of (g := dN) (fun x y => rfl) (fun l => ⟨_, _, rfl⟩) dep_N (by omega)), sort_of]
    rfl
  refine ⟨F, st2, body_rt rfl ?_, r2, ?_, fun k hk => ?_⟩
  · exact sSeq_at s1 (sSeq_at s3 (sSeq_at s4 (sSeq_at e (sRet_at (rPure (rCallF (rCons (rV rfl) rNil) srt))))))
  · rw [r3, List.length_append, l1, ← hn]
    show _ ≤ _ + 1 + 2
    omega
  · rw [r4 k (by omega) (by omega), List.getElem?_append_left (by omega), q4 k (by omega), List.getElem?_append_left (by omega)]
end
end Sh


set_option maxRecDepth 100000
set_option maxHeartbeats 4000000
/-! names in order; the way a loop goes -/
namespace Sh
open PySem L2 Evl PySem.W
theorem toks_N (n : Nm) : keyToks (dN n) = [.inl 1, .inr n.1.cps.toList, .inl 1, .inl (n.2 : Int), .inl 0] := rfl
theorem toks_inj {a b : Nm} (h : keyToks (dN a) = keyToks (dN b)) : a = b := by
  rw [toks_N, toks_N] at h
  injection h with _ h
  injection h with h1 h
  injection h with _ h
  injection h with h2 _
  injection h1 with h1
  injection h2 with h2
  obtain ⟨⟨a1⟩, a2⟩ := a
  obtain ⟨⟨b1⟩, b2⟩ := b
  have e1 : a1 = b1 := Array.toList_inj.mp h1
  have e2 : a2 = b2 := Int.ofNat.inj h2
  rw [e1, e2]
theorem tot : TotalLe (dataLe false dN) := sortLe_total _ false _
theorem anti {a b : Nm} (h1 : dataLe false dN a b = true) (h2 : dataLe false dN b a = true) : a = b := by
  have e1 : (!(PyProof.Rows.listOrd PyProof.Rows.itemOrd).blt (keyToks (dN b)) (keyToks (dN a))) = true := h1
  have e2 : (!(PyProof.Rows.listOrd PyProof.Rows.itemOrd).blt (keyToks (dN a)) (keyToks (dN b))) = true := h2
  rw [Bool.not_eq_true'] at e1 e2
  exact toks_inj ((PyProof.Rows.listOrd PyProof.Rows.itemOrd).total _ _ e2 e1)
theorem srtN_eq {xs ys : List Nm} (h : xs.Perm ys) (hs : ys.Pairwise fun a b => dataLe false dN a b = true) : srtN xs = ys :=
  List.Perm.eq_of_pairwise (fun a b _ _ => anti) (sort_pairwise tot xs) hs ((List.mergeSort_perm _ _).trans h)
theorem srtL_names (L : List Lp) : (srtL L).map (·.1) = srtN (L.map (·.1)) := List.map_mergeSort (f := fun l : Lp => l.1) (s := dataLe false dN) (r := dataLe false fun l : Lp => dN l.1) fun a _ b _ => rfl
theorem count1 {xs : List Nm} {a : Nm} (nd : xs.Nodup) (h : a ∈ xs) : xs.count a = 1 := by
  have p := List.nodup_iff_count.mp nd a
  have q := List.count_pos_iff.mpr h
  omega
/-- the names of the sorted rows that fit, sorted -/
theorem srt_filter {L : List Lp} {F : List Nm} {p : Nm → Bool} (nd : (L.map (·.1)).Nodup) (nf : F.Nodup) (h : ∀ a, a ∈ F ↔ a ∈ L.map (·.1) ∧ p a = true) : srtN F = (((srtL L).map (·.1)).filter p) := by
  refine srtN_eq ?_ ((show ((srtL L).map (·.1)).Pairwise _ by rw [srtL_names]; exact sort_pairwise tot _).filter _)
  have nd2 : ((srtL L).map (·.1)).Nodup := by
    rw [srtL_names]
    exact (List.mergeSort_perm _ _).nodup_iff.mpr nd
  refine List.perm_iff_count.mpr fun a => ?_
  have q : a ∈ F ↔ a ∈ ((srtL L).map (·.1)).filter p := by
    rw [List.mem_filter, h a, srtL_names]
    exact and_congr (List.mergeSort_perm _ _).mem_iff.symm Iff.rfl
  by_cases e : a ∈ F
  · rw [count1 nf e, count1 (nd2.filter _) (q.mp e)]
  · rw [List.count_eq_zero.mpr e, List.count_eq_zero.mpr fun z => e (q.mpr z)]
/-! chains: the loop that was drawn through one, and so on -/
def chd (R : List Rr) (a : Nm) : Option Nm := (R.find? fun r => decide (a ∈ r.2)).map (·.1)
def lastN (R : List Rr) : Nat → Nm → Nm
  | 0, a => a
  | n + 1, a => match chd R a with
    | none => a
    | some b => lastN R n b
theorem chd_some {R : List Rr} {a b : Nm} (h : chd R a = some b) : ∃ r ∈ R, r.1 = b ∧ a ∈ r.2 := by
  unfold chd at h
  cases q : R.find? fun r => decide (a ∈ r.2) with
  | none => rw [q] at h; cases h
  | some r =>
    rw [q] at h
    cases h
    exact ⟨r, List.mem_of_find?_eq_some q, rfl, by simpa using List.find?_some q⟩
theorem chd_none {R : List Rr} {a : Nm} (h : chd R a = none) : ∀ r ∈ R, a ∉ r.2 := fun r hr z => by
  unfold chd at h
  cases q : R.find? fun r => decide (a ∈ r.2) with
  | none =>
    have := List.find?_eq_none.mp q r hr
    exact this (decide_eq_true z)
  | some r => rw [q] at h; cases h
theorem one_row {a : Nm} : ∀ {R : List Rr}, (R.flatMap (·.2)).count a ≤ 1 → ∀ {r q : Rr}, r ∈ R → q ∈ R → a ∈ r.2 → a ∈ q.2 → r = q
  | x :: R, h, r, q, hr, hq, h1, h2 => by
    rw [List.flatMap_cons, List.count_append] at h
    have pos : ∀ y : Rr, y ∈ R → a ∈ y.2 → 1 ≤ (R.flatMap (·.2)).count a := fun y hy ha => List.count_pos_iff.mpr (List.mem_flatMap.mpr ⟨y, hy, ha⟩)
    rcases List.mem_cons.mp hr with rfl | hr' <;> rcases List.mem_cons.mp hq with rfl | hq'
    · rfl
    · have := pos q hq' h2
      have := List.count_pos_iff.mpr h1
      omega
    · have := pos r hr' h1
      have := List.count_pos_iff.mpr h2
      omega
    · exact one_row (by omega) hr' hq' h1 h2
/-- a loop comes undone as the last of its chain is dropped -/
theorem und_chain {R : List Rr} {dr F : List Nm} (U : Und R dr) (cl : ∀ a, a ∈ F ↔ a ∈ dr ∨ ∃ r ∈ R, r.1 ∈ F ∧ a ∈ r.2) : ∀ (n : Nat) (a : Nm), chd R (lastN R n a) = none → (a ∈ F ↔ lastN R n a ∈ dr)
  | n, a, h => by
    have leaf : chd R a = none → (a ∈ F ↔ a ∈ dr) := fun h => by
      rw [cl a]
      refine ⟨fun z => z.elim id fun ⟨r, hr, _, h3⟩ => absurd h3 (chd_none h r hr), .inl⟩
    have step : ∀ b, chd R a = some b → (a ∈ F ↔ b ∈ F) := fun b hb => by
      obtain ⟨r, hr, rfl, ha⟩ := chd_some hb
      have in1 : 1 ≤ (R.flatMap (·.2)).count a := List.count_pos_iff.mpr (List.mem_flatMap.mpr ⟨r, hr, ha⟩)
      have o := U.one a
      rw [List.count_append] at o
      rw [cl a]
      refine ⟨fun z => z.elim (fun z => ?_) fun ⟨q, hq, h2, h3⟩ => ?_, fun z => .inr ⟨r, hr, z, ha⟩⟩
      · have := List.count_pos_iff.mpr z
        omega
      · rw [show r = q from one_row (by omega) hr hq ha h3]
        exact h2
    cases n with
    | zero => exact leaf h
    | succ n =>
      unfold lastN at h ⊢
      cases q : chd R a with
      | none => exact leaf q
      | some b =>
        rw [q] at h
        exact (step b q).trans (und_chain U cl n b h)
end Sh


set_option maxRecDepth 100000
set_option maxHeartbeats 4000000
/-! names among names; a fabric's names -/
namespace Sh
open PySem L2 Evl PySem.W
theorem okD_nW {n : Nm} (h : nOk n) : okD (nW n) = true := by
  obtain ⟨⟨h1, _⟩, h2⟩ := h
  show (okD (.str n.1) && (decide ((n.2 : Int).natAbs < 1000000000) && true)) = true
  rw [h1, decide_eq_true (by omega)]
  rfl
theorem okDs_map {α : Type} {f : α → W} : ∀ {xs : List α}, (∀ x ∈ xs, okD (f x) = true) → okDs (xs.map f) = true
  | [], _ => rfl
  | x :: xs, h => by
    show (okD (f x) && okDs (xs.map f)) = true
    rw [h x List.mem_cons_self, okDs_map fun y hy => h y (List.mem_cons_of_mem _ hy)]
    rfl
theorem eqv_N (a b : Nm) : PyData.eqv (dN a) (dN b) = decide (a = b) := by
  have q : PyData.eqv (dN a) (dN b) = true ↔ a = b := by
    unfold dN
    simp only [PyData.eqv, PyData.eqvAll, Bool.and_eq_true, Bool.and_true, beq_iff_eq]
    exact ⟨fun h => Prod.ext h.1 (Int.ofNat.inj h.2), fun h => by rw [h]; exact ⟨rfl, rfl⟩⟩
  by_cases h : a = b
  · rw [decide_eq_true h]
    exact q.mpr h
  · rw [decide_eq_false h]
    cases e : PyData.eqv (dN a) (dN b) with
    | false => rfl
    | true => exact absurd (q.mp e) h
theorem lay_N {n : Nm} (h : nOk n) : (dN n).canLay0 = true := by
  have q : PyData.strOk n.1 = true := h.1.1
  unfold dN
  simp [PyData.canLay0, PyData.canLayAll0, q]
theorem shaped_N {n : Nm} (h : nOk n) : SeqAt.shaped (dN n) = true := by
  show ((dN n).canLay0 && decide ((dN n).depth ≤ 64)) = true
  rw [lay_N h, decide_eq_true (Nat.le_trans (dep_N n) (by decide))]
  rfl
theorem shaped_Ns {xs : List Nm} (h : ∀ x ∈ xs, nOk x) : SeqAt.shaped (.list (xs.map dN)) = true := by
  have e1 : PyData.canLayAll0 (xs.map dN) = true := by
    induction xs with
    | nil => rfl
    | cons x xs ih => show ((dN x).canLay0 && PyData.canLayAll0 (xs.map dN)) = true; rw [ih fun y hy => h y (List.mem_cons_of_mem _ hy), lay_N (h x List.mem_cons_self)]; rfl
  have e2 : PyData.depthAll (xs.map dN) ≤ 41 := by
    induction xs with
    | nil => exact Nat.zero_le _
    | cons x xs ih =>
      have a := dep_N x
      have b := ih (fun y hy => h y (List.mem_cons_of_mem _ hy)) (by
        have : ((dN x).canLay0 && PyData.canLayAll0 (xs.map dN)) = true := e1
        rw [Bool.and_eq_true] at this
        exact this.2)
      show max (dN x).depth (PyData.depthAll (xs.map dN)) ≤ 41
      omega
  show ((PyData.list (xs.map dN)).canLay0 && decide ((PyData.list (xs.map dN)).depth ≤ 64)) = true
  rw [show (PyData.list (xs.map dN)).canLay0 = PyData.canLayAll0 (xs.map dN) from rfl, e1, decide_eq_true]
  · rfl
  · show PyData.depthAll (xs.map dN) + 1 ≤ 64
    omega
variable [Wd]
theorem inD_run {a : Nm} {xs : List Nm} (ha : nOk a) (hx : ∀ x ∈ xs, nOk x) (st : Store) : oInD (nW a) (.lst (xs.map nW)) st = .ok (.bl (decide (a ∈ xs))) st := by
  have c2 : datC (.lst (xs.map nW)) st = some (.list (xs.map dN)) := by
    show dat (.lst (xs.map nW)) = _
    rw [dat, dats_of (g := dN) fun n _ => dat_nW n]
    rfl
  unfold oInD
  rw [show datC (nW a) st = some (dN a) from rfl, c2]
  dsimp only
  rw [if_pos ⟨shaped_N ha, shaped_Ns hx⟩]
  congr 2
  rw [List.any_map]
  by_cases h : a ∈ xs
  · rw [decide_eq_true h]
    exact List.any_eq_true.mpr ⟨a, h, by show PyData.eqv (dN a) (dN a) = true; rw [eqv_N]; exact decide_eq_true rfl⟩
  · rw [decide_eq_false h]
    refine List.any_eq_false.mpr fun x hx' z => h ?_
    have z : PyData.eqv (dN x) (dN a) = true := z
    rw [eqv_N] at z
    exact of_decide_eq_true z ▸ hx'
omit [Wd] in
/-- a fabric's rows -/
abbrev rowsR (L : List Lp) : List Rr := (srtL L).map fun l => (l.1, dep l)
omit [Wd] in
theorem mem_srt (L : List Lp) (l : Lp) : l ∈ srtL L ↔ l ∈ L := (List.mergeSort_perm _ _).mem_iff
omit [Wd] in
theorem Fab.und {row : List Nm} {L : List Lp} {dr : List Nm} {X : List Xc} {z : Nat} (F : Fab row L dr X z) (hz : z ≤ 200000) : Und (rowsR L) dr := by
  have p : (row ++ dr ++ L.flatMap dep).Perm (L.map (·.1)) := List.perm_iff_count.mpr F.wi.perm
  have fm : ((rowsR L).flatMap (·.2)).Perm (L.flatMap dep) := by
    rw [List.flatMap_map]
    exact (List.mergeSort_perm L _).flatMap_right _
  have nm : (rowsR L).map (·.1) = (srtL L).map (·.1) := by rw [List.map_map]; rfl
  have le := p.length_eq
  rw [List.length_append, List.length_append, List.length_map] at le
  refine ⟨?_, fun a => ?_, fun a ha => ?_, ⟨?_, ?_⟩⟩
  · rw [nm, srtL_names]
    exact (List.mergeSort_perm _ _).nodup_iff.mpr F.wi.nd
  · have q := F.wi.perm a
    have o := List.nodup_iff_count.mp F.wi.nd a
    rw [List.count_append, fm.count_eq]
    simp only [List.count_append] at q
    omega
  · rw [nm, srtL_names]
    refine (List.mergeSort_perm _ _).mem_iff.mpr ?_
    rcases List.mem_append.mp ha with h | h
    · exact F.wi.sub.2.1 a h
    · obtain ⟨l, hl, hm⟩ := List.mem_flatMap.mp (fm.mem_iff.mp h)
      exact F.wi.sub.2.2 l hl a hm
  · rw [List.length_map, show (srtL L).length = L.length from List.length_mergeSort L]
    exact Nat.le_trans F.ll hz
  · rw [List.length_append, fm.length_eq]
    have := F.ll
    omega
end Sh


set_option maxRecDepth 100000
set_option maxHeartbeats 4000000
/-! a fabric fits a text -/
namespace Sh
open PySem L2 Evl PySem.W
theorem wtDs_map {α : Type} {f : α → W} {c : Nat} : ∀ {xs : List α}, (∀ x ∈ xs, wtD (f x) ≤ c) → wtDs (xs.map f) ≤ (c + 1) * xs.length
  | [], _ => Nat.zero_le _
  | x :: xs, h => by
    have a := h x List.mem_cons_self
    have b := wtDs_map (c := c) fun y hy => h y (List.mem_cons_of_mem _ hy)
    rw [List.length_cons, Nat.mul_succ]
    show wtD (f x) + 1 + wtDs (xs.map f) ≤ _
    omega
theorem dpDs_map {α : Type} {f : α → W} {c : Nat} : ∀ {xs : List α}, (∀ x ∈ xs, dpD (f x) ≤ c) → dpDs (xs.map f) ≤ c
  | [], _ => Nat.zero_le _
  | x :: xs, h => by
    have a := h x List.mem_cons_self
    have b := dpDs_map (c := c) fun y hy => h y (List.mem_cons_of_mem _ hy)
    show max (dpD (f x)) (dpDs (xs.map f)) ≤ c
    omega
theorem wt_nW {n : Nm} (h : nOk n) : wtD (nW n) ≤ 41 := by
  have := h.1.2
  show wtD (.str n.1) + 1 + (31 + 1 + 0) ≤ 41
  omega
theorem dp_nW (n : Nm) : dpD (nW n) ≤ 1 := Nat.le_refl _
theorem dp_Ns (xs : List Nm) : dpD (.lst (xs.map nW)) ≤ 2 := by
  have := dpDs_map (f := nW) (xs := xs) (c := 1) fun n _ => dp_nW n
  show dpDs (xs.map nW) + 1 ≤ 2
  omega
theorem ok_Ns {xs : List Nm} (h : ∀ x ∈ xs, nOk x) : okDs (xs.map nW) = true := okDs_map fun x hx => okD_nW (h x hx)
theorem plc_len (l : Lp) : (plc l).length = (dep l).length := by
  obtain ⟨n, c, xs⟩ := l
  cases c with
  | one k => rfl
  | two k y => rfl
  | join m lean side y =>
    show xs.length = (if lean = "right" then xs.reverse else xs).length
    split
    · rw [List.length_reverse]
    · rfl
theorem plc_mem (l : Lp) : ∀ x ∈ plc l, x ∈ dep l := by
  obtain ⟨n, c, xs⟩ := l
  cases c with
  | one k => exact fun _ h => h
  | two k y => exact fun _ h => h
  | join m lean side y =>
    intro x h
    show x ∈ (if lean = "right" then xs.reverse else xs)
    split
    · exact List.mem_reverse.mpr h
    · exact h
theorem side_fit : ∀ s : Str, (s = "pass" ∨ s = "drop" ∨ s = "knit" ∨ s = "purl" ∨ s = "tuck") → okD (.str s) = true ∧ wtD (.str s) ≤ 4 := by
  rintro s (rfl | rfl | rfl | rfl | rfl) <;> exact ⟨by decide +kernel, by decide +kernel⟩
theorem side_ok {l : Lp} (h : l.2.1.ok) : okD (.str (sideOf l)) = true ∧ wtD (.str (sideOf l)) ≤ 4 := by
  obtain ⟨n, c, xs⟩ := l
  refine side_fit _ ?_
  cases c with
  | one k => exact (show k = "pass" ∨ k = "drop" from h).elim .inl fun e => .inr (.inl e)
  | two k y => exact h.1.elim (fun e => .inr (.inr (.inl e))) fun e => e.elim (fun e => .inr (.inr (.inr (.inl e)))) fun e => .inr (.inr (.inr (.inr e)))
  | join m lean side y => exact h.2.2.1.elim (fun e => .inr (.inr (.inl e))) fun e => .inr (.inr (.inr (.inl e)))
theorem row_fit {l : Lp} (h : l.2.1.ok) (n : nOk l.1) (hd : ∀ x ∈ dep l, nOk x) : okD (rowW l) = true ∧ wtD (rowW l) ≤ 49 + 84 * (dep l).length ∧ dpD (rowW l) ≤ 3 := by
  obtain ⟨s1, s2⟩ := side_ok h
  have hp : ∀ x ∈ plc l, nOk x := fun x hx => hd x (plc_mem l x hx)
  refine ⟨?_, ?_, ?_⟩
  · show (okD (nW l.1) && (okD (.str (sideOf l)) && (okDs ((dep l).map nW) && (okDs ((plc l).map nW) && true)))) = true
    rw [okD_nW n, s1, ok_Ns hd, ok_Ns hp]
    rfl
  · have a := wt_nW n
    have b := wtDs_map (f := nW) (c := 41) fun x hx => wt_nW (hd x hx)
    have c := wtDs_map (f := nW) (c := 41) fun x hx => wt_nW (hp x hx)
    rw [plc_len] at c
    show wtD (nW l.1) + 1 + (wtD (.str (sideOf l)) + 1 + (wtDs ((dep l).map nW) + 1 + (wtDs ((plc l).map nW) + 1 + 0))) ≤ _
    omega
  · have a := dp_nW l.1
    have b := dp_Ns (dep l)
    have c := dp_Ns (plc l)
    show max (dpD (nW l.1)) (max (dpD (.str (sideOf l))) (max (dpD (.lst ((dep l).map nW))) (max (dpD (.lst ((plc l).map nW))) 0))) + 1 ≤ 3
    have d : dpD (.str (sideOf l)) = 0 := rfl
    omega
theorem rows_wt : ∀ {ls : List Lp}, (∀ l ∈ ls, l.2.1.ok ∧ nOk l.1 ∧ ∀ x ∈ dep l, nOk x) → wtDs (ls.map rowW) ≤ 50 * ls.length + 84 * (ls.flatMap dep).length
  | [], _ => Nat.zero_le _
  | l :: ls, h => by
    obtain ⟨a, b, c⟩ := h l List.mem_cons_self
    have d := (row_fit a b c).2.1
    have e := rows_wt fun x hx => h x (List.mem_cons_of_mem _ hx)
    rw [List.length_cons, List.flatMap_cons, List.length_append]
    show wtD (rowW l) + 1 + wtDs (ls.map rowW) ≤ _
    omega
theorem prs_wt : ∀ {X : List Xc}, (∀ x ∈ X, nOk x.one ∧ nOk x.two ∧ ∀ n ∈ x.ov, nOk n) → wtDs (X.map xrW) ≤ 86 * X.length + 42 * (X.map fun x => x.ov.length).sum
  | [], _ => Nat.zero_le _
  | x :: X, h => by
    obtain ⟨a, b, c⟩ := h x List.mem_cons_self
    have a1 := wt_nW a
    have b1 := wt_nW b
    have c1 := wtDs_map (f := nW) (c := 41) fun y hy => wt_nW (c y hy)
    have e := prs_wt fun y hy => h y (List.mem_cons_of_mem _ hy)
    rw [List.length_cons, List.map_cons, List.map_cons, List.sum_cons]
    show (wtD (nW x.one) + 1 + (wtD (nW x.two) + 1 + (wtDs (x.ov.map nW) + 1 + 0))) + 1 + wtDs (X.map xrW) ≤ _
    omega
theorem xr_fit {x : Xc} (h : nOk x.one ∧ nOk x.two ∧ ∀ n ∈ x.ov, nOk n) : okD (xrW x) = true ∧ dpD (xrW x) ≤ 3 := by
  obtain ⟨a, b, c⟩ := h
  refine ⟨?_, ?_⟩
  · show (okD (nW x.one) && (okD (nW x.two) && (okDs (x.ov.map nW) && true))) = true
    rw [okD_nW a, okD_nW b, ok_Ns c]
    rfl
  · have p := dp_nW x.one
    have q := dp_nW x.two
    have r := dp_Ns x.ov
    show max (dpD (nW x.one)) (max (dpD (nW x.two)) (max (dpD (.lst (x.ov.map nW))) 0)) + 1 ≤ 3
    omega
structure Nms (row : List Nm) (L : List Lp) (dr : List Nm) : Prop where
  l : ∀ l ∈ L, l.2.1.ok ∧ nOk l.1 ∧ ∀ x ∈ dep l, nOk x
  r : ∀ x ∈ row, nOk x
  d : ∀ x ∈ dr, nOk x
theorem Fab.nms {row : List Nm} {L : List Lp} {dr : List Nm} {X : List Xc} {z : Nat} (F : Fab row L dr X z) (hz : z ≤ 200000) : Nms row L dr := by
  have n := F.lo.nm F.cn (Nat.le_trans F.ll hz)
  obtain ⟨a, b, c⟩ := F.wi.sub
  exact ⟨fun l hl => ⟨(F.lo l hl).1, n _ (List.mem_map.mpr ⟨l, hl, rfl⟩), fun x hx => n x (c l hl x hx)⟩, fun x hx => n x (a x hx), fun x hx => n x (b x hx)⟩
/-- the record fits -/
theorem Fab.fit {row : List Nm} {L : List Lp} {dr : List Nm} {X : List Xc} {z : Nat} (F : Fab row L dr X z) (hz : z ≤ 6500) : okD (recW L X (restW row) dr) = true ∧ wtD (recW L X (restW row) dr) ≤ 2 ^ 20 ∧ dpD (recW L X (restW row) dr) ≤ 60 := by
  have N := F.nms (by omega)
  have U := F.und (by omega)
  have p : (row ++ dr ++ L.flatMap dep).Perm (L.map (·.1)) := List.perm_iff_count.mpr F.wi.perm
  have le := p.length_eq
  rw [List.length_append, List.length_append, List.length_map] at le
  have fl : ((srtL L).flatMap dep).length = (L.flatMap dep).length := ((List.mergeSort_perm L _).flatMap_right dep).length_eq
  have sl : (srtL L).length = L.length := List.length_mergeSort L
  have sx : (srtX X).length = X.length := List.length_mergeSort X
  have sd : (srtN dr).length = dr.length := List.length_mergeSort dr
  have st : ((srtX X).map fun x => x.ov.length).sum = (X.map fun x => x.ov.length).sum := ((List.mergeSort_perm X _).map _).sum_nat
  have ml : ∀ l ∈ srtL L, l.2.1.ok ∧ nOk l.1 ∧ ∀ x ∈ dep l, nOk x := fun l hl => N.l l ((mem_srt L l).mp hl)
  have mx : ∀ x ∈ srtX X, nOk x.one ∧ nOk x.two ∧ ∀ n ∈ x.ov, nOk n := fun x hx => F.xn x ((List.mergeSort_perm X _).mem_iff.mp hx)
  have md : ∀ x ∈ srtN dr, nOk x := fun x hx => N.d x ((List.mergeSort_perm dr _).mem_iff.mp hx)
  obtain ⟨k, k1, k2, k3⟩ := F.xl
  refine ⟨?_, ?_, ?_⟩
  · show (okDs ((srtL L).map rowW) && (okDs ((srtX X).map xrW) && (okDs (row.map fun n => W.lst [nW n]) && (okDs ((srtN dr).map nW) && true)))) = true
    rw [okDs_map fun l hl => (row_fit (ml l hl).1 (ml l hl).2.1 (ml l hl).2.2).1, okDs_map fun x hx => (xr_fit (mx x hx)).1, okDs_map (f := fun n => W.lst [nW n]) fun n hn => (show (okD (nW n) && true) = true by rw [okD_nW (N.r n hn)]; rfl), ok_Ns md]
    rfl
  · have a := rows_wt ml
    have b := prs_wt mx
    have c := wtDs_map (f := fun n => W.lst [nW n]) (c := 42) fun n hn => (show wtD (nW n) + 1 + 0 ≤ 42 from Nat.succ_le_succ (wt_nW (N.r n hn)))
    have d := wtDs_map (f := nW) (c := 41) fun n hn => wt_nW (md n hn)
    have e : (2 : Nat) ^ 20 = 1048576 := by decide
    rw [e]
    show wtDs ((srtL L).map rowW) + 1 + (wtDs ((srtX X).map xrW) + 1 + (wtDs (row.map fun n => W.lst [nW n]) + 1 + (wtDs ((srtN dr).map nW) + 1 + 0))) ≤ _
    omega
  · have a := dpDs_map (f := rowW) (c := 3) fun l hl => (row_fit (ml l hl).1 (ml l hl).2.1 (ml l hl).2.2).2.2
    have b := dpDs_map (f := xrW) (c := 3) fun x hx => (xr_fit (mx x hx)).2
    have c := dpDs_map (f := fun n => W.lst [nW n]) (xs := row) (c := 2) fun n _ => (show max (dpD (nW n)) 0 + 1 ≤ 2 by have := dp_nW n; omega)
    have d := dpDs_map (f := nW) (xs := srtN dr) (c := 1) fun n _ => dp_nW n
    show max (dpDs ((srtL L).map rowW) + 1) (max (dpDs ((srtX X).map xrW) + 1) (max (dpDs (row.map fun n => W.lst [nW n]) + 1) (max (dpDs ((srtN dr).map nW) + 1) 0))) + 1 ≤ 60
    omega
end Sh


set_option maxRecDepth 100000
set_option maxHeartbeats 4000000
/-! chains end; what is told of a list -/
namespace Sh
open PySem L2 Evl PySem.W
theorem chd_rows {L : List Lp} {a b : Nm} (h : chd (rowsR L) a = some b) : ∃ j, ∃ hj : j < L.length, L[j].1 = b ∧ a ∈ dep L[j] := by
  obtain ⟨r, hr, e, ha⟩ := chd_some h
  obtain ⟨l, hl, e2⟩ := List.mem_map.mp hr
  obtain ⟨j, hj, e3⟩ := List.getElem_of_mem ((mem_srt L l).mp hl)
  subst e3
  subst e2
  exact ⟨j, hj, e, ha⟩
theorem last_end {row : List Nm} {L : List Lp} {dr : List Nm} (W : Wi row L dr) : ∀ (k i : Nat) (hi : i < L.length), L.length ≤ i + k + 1 → chd (rowsR L) (lastN (rowsR L) k L[i].1) = none := by
  have up : ∀ i (hi : i < L.length) b, chd (rowsR L) L[i].1 = some b → ∃ j, ∃ hj : j < L.length, L[j].1 = b ∧ i < j := fun i hi b h => by
    obtain ⟨j, hj, e, ha⟩ := chd_rows h
    refine ⟨j, hj, e, ?_⟩
    have m := W.old j _ (List.getElem?_eq_getElem hj) _ ha
    obtain ⟨l, hl, e2⟩ := List.mem_map.mp m
    obtain ⟨i', hi', e3⟩ := List.getElem_of_mem hl
    rw [List.length_take] at hi'
    rw [List.getElem_take] at e3
    by_cases q : i < j
    · exact q
    · exfalso
      have ne := List.pairwise_iff_getElem.mp (show (L.map (·.1)).Pairwise (· ≠ ·) from W.nd) i' i (by rw [List.length_map]; omega) (by rw [List.length_map]; exact hi) (by omega)
      rw [List.getElem_map, List.getElem_map, e3] at ne
      exact ne e2
  intro k
  induction k with
  | zero =>
    intro i hi h
    show chd (rowsR L) L[i].1 = none
    cases q : chd (rowsR L) L[i].1 with
    | none => rfl
    | some b =>
      obtain ⟨j, hj, _, lt⟩ := up i hi b q
      omega
  | succ k ih =>
    intro i hi h
    unfold lastN
    cases q : chd (rowsR L) L[i].1 with
    | none => exact q
    | some b =>
      obtain ⟨j, hj, e, lt⟩ := up i hi b q
      have := ih j hj (by omega)
      rw [e] at this
      exact this
variable [Wd]
/-- a list in a cell is told as a plain one -/
theorem repr_cell {d : Nat} {xs : List W} {st : Store} (hc : lcell st d = some xs) (h : okDs xs = true) (hw : wtDs xs ≤ 2 ^ 20) (hd : dpDs xs ≤ 59) : cRepr [.cell d] st = .ok (.str (shownW (.lst xs))) st := by
  have r := repr_at (w := .lst xs) st h hw (show dpDs xs + 1 ≤ 60 by omega) rfl
  rw [← r]
  have e : datC (.cell d) st = datC (.lst xs) st := by
    show ((lviewT (.cell d) st).bind fun ys => (dats ys).map .list) = dat (.lst xs)
    rw [show lviewT (.cell d) st = lcell st d from rfl, hc, dat]
    rfl
  show (match datC (.cell d) st with | some d => _ | none => _) = (match datC (.lst xs) st with | some d => _ | none => _)
  rw [e]
/-- the two ways agree -/
theorem undone_due {row : List Nm} {L : List Lp} {dr F : List Nm} {X : List Xc} {z : Nat} (Fb : Fab row L dr X z) (hz : z ≤ 200000) (D : DF (rowsR L) dr F []) :
    srtN F = ((srtL L).map (·.1)).filter fun a => decide (lastN (rowsR L) L.length a ∈ srtN dr) := by
  have U := Fb.und hz
  obtain ⟨nf, sub, cl⟩ := df_end U D
  refine srt_filter Fb.wi.nd nf fun a => ?_
  have nm : ∀ a, a ∈ (rowsR L).map (·.1) ↔ a ∈ L.map (·.1) := fun a => by
    rw [List.map_map, show ((fun r : Rr => r.1) ∘ fun l : Lp => (l.1, dep l)) = fun l : Lp => l.1 from rfl, srtL_names]
    exact (List.mergeSort_perm _ _).mem_iff
  have dd : ∀ a, a ∈ srtN dr ↔ a ∈ dr := fun a => (List.mergeSort_perm _ _).mem_iff
  have ch : a ∈ L.map (·.1) → (a ∈ F ↔ lastN (rowsR L) L.length a ∈ dr) := fun ha => by
    obtain ⟨l, hl, e⟩ := List.mem_map.mp ha
    obtain ⟨i, hi, e2⟩ := List.getElem_of_mem hl
    subst e2
    subst e
    exact und_chain U cl L.length _ (last_end Fb.wi L.length i hi (by omega))
  constructor
  · intro h
    have ha := (nm a).mp (sub a h)
    exact ⟨ha, decide_eq_true ((dd _).mpr ((ch ha).mp h))⟩
  · rintro ⟨ha, h⟩
    exact (ch ha).mpr ((dd _).mp (of_decide_eq_true h))
end Sh


set_option maxRecDepth 100000
set_option maxHeartbeats 4000000
/-! long charts -/
namespace Sh
open PySem L2 Evl PySem.W
abbrev kn : Cmd := .two "knit" "a"
abbrev tu : Cmd := .two "tuck" "a"
abbrev ps : Cmd := .one "pass"
abbrev dp' : Cmd := .one "drop"
abbrev an (k : Nat) : Nm := (("a" : Str), k)
abbrev lp (k : Nat) (c : Cmd) (xs : List Nm) : Lp := (an k, c, xs)
abbrev jn (lean : Str) : Cmd := .join 2 lean "purl" "a"
abbrev tri (r : List Nm) (L : List Lp) (d : List Nm) : Tri := (r, L, d)
theorem wln_knit (x y : Nm) (L : List Lp) (dr : List Nm) : wln "right" [kn, ps] (tri [x, y] L dr) = tri [an (cnt L "a"), y] (L ++ [lp (cnt L "a") kn [x]]) dr := by rfl
theorem wln_join (lean : Str) (x y : Nm) (L : List Lp) (dr : List Nm) : wln "right" [jn lean, tu] (tri [x, y] L dr) =
    tri [an (cnt L "a"), an (cnt (L ++ [lp (cnt L "a") (jn lean) [x, y]]) "a")] ((L ++ [lp (cnt L "a") (jn lean) [x, y]]) ++ [lp (cnt (L ++ [lp (cnt L "a") (jn lean) [x, y]]) "a") tu []]) dr := by rfl
theorem wln_end (x y : Nm) (L : List Lp) (dr : List Nm) : wln "right" [dp', ps] (tri [x, y] L dr) = tri [y] L (dr ++ [x]) := by rfl
theorem wln_start : wln "right" [tu, tu] (tri [] [] []) = tri [an 0, an 1] [lp 0 tu [], lp 1 tu []] [] := by rfl
theorem cnt_all : ∀ {L : List Lp}, (∀ l ∈ L, l.1.1 = "a") → cnt L "a" = L.length
  | [], _ => rfl
  | l :: L, h => by
    have ih := cnt_all fun x hx => h x (List.mem_cons_of_mem _ hx)
    unfold cnt at ih ⊢
    rw [List.filter_cons, if_pos (decide_eq_true (h l List.mem_cons_self)), List.length_cons, ih, List.length_cons]
end Sh


set_option maxRecDepth 100000
set_option maxHeartbeats 4000000
namespace Sh
open PySem L2 Evl PySem.W
theorem wlns_app : ∀ (xs ys : List Line) (t : Tri), wlns (xs ++ ys) t = wlns ys (wlns xs t)
  | [], _, _ => rfl
  | .work d cs :: xs, ys, t => wlns_app xs ys (wln d cs t)
  | .move _ :: xs, ys, t => wlns_app xs ys t
abbrev wR (cs : List Cmd) : Line := .work "right" cs
/-! a column of single loops -/
def pA : Nat → Nat
  | 0 => 0
  | i + 1 => i + 2
def LA : Nat → List Lp
  | 0 => [lp 0 tu [], lp 1 tu []]
  | i + 1 => LA i ++ [lp (i + 2) kn [an (pA i)]]
theorem LA_len : ∀ i, (LA i).length = i + 2
  | 0 => rfl
  | i + 1 => by
    show (LA i ++ _).length = _
    rw [List.length_append, LA_len i]
    rfl
theorem LA_mem : ∀ {m : Nat} {l : Lp}, l ∈ LA m ↔ l = lp 0 tu [] ∨ l = lp 1 tu [] ∨ ∃ i, i < m ∧ l = lp (i + 2) kn [an (pA i)]
  | 0, l => by
    show l ∈ [_, _] ↔ _
    rw [List.mem_cons, List.mem_singleton]
    exact ⟨fun h => h.elim .inl fun h => .inr (.inl h), fun h => h.elim .inl fun h => h.elim .inr fun ⟨i, hi, _⟩ => absurd hi (Nat.not_lt_zero i)⟩
  | m + 1, l => by
    show l ∈ LA m ++ [_] ↔ _
    rw [List.mem_append, LA_mem, List.mem_singleton]
    constructor
    · rintro ((h | h | ⟨i, hi, h⟩) | h)
      · exact .inl h
      · exact .inr (.inl h)
      · exact .inr (.inr ⟨i, by omega, h⟩)
      · exact .inr (.inr ⟨m, by omega, h⟩)
    · rintro (h | h | ⟨i, hi, h⟩)
      · exact .inl (.inl h)
      · exact .inl (.inr (.inl h))
      · by_cases e : i = m
        · subst e
          exact .inr h
        · exact .inl (.inr (.inr ⟨i, by omega, h⟩))
theorem LA_cnt (i : Nat) : cnt (LA i) "a" = i + 2 := by
  rw [cnt_all fun l hl => ?_, LA_len]
  rcases LA_mem.mp hl with rfl | rfl | ⟨j, _, rfl⟩ <;> rfl
theorem LA_run : ∀ i, wlns (List.replicate i (wR [kn, ps])) (tri [an 0, an 1] (LA 0) []) = tri [an (pA i), an 1] (LA i) []
  | 0 => rfl
  | i + 1 => by
    rw [List.replicate_succ', wlns_app, LA_run i]
    show wln "right" [kn, ps] (tri [an (pA i), an 1] (LA i) []) = _
    rw [wln_knit, LA_cnt]
    rfl
abbrev lsA (m : Nat) : List Line := [wR [tu, tu]] ++ List.replicate m (wR [kn, ps]) ++ [wR [dp', ps]]
theorem runA (m : Nat) : wlns (lsA m) (tri [] [] []) = tri [an 1] (LA m) [an (pA m)] := by
  rw [wlns_app, wlns_app]
  show wlns [wR [dp', ps]] (wlns _ (wln "right" [tu, tu] (tri [] [] []))) = _
  rw [wln_start]
  show wlns [wR [dp', ps]] (wlns _ (tri [an 0, an 1] (LA 0) [])) = _
  rw [LA_run]
  show wln "right" [dp', ps] (tri [an (pA m), an 1] (LA m) []) = _
  rw [wln_end]
  rfl
theorem an_inj {i j : Nat} (h : an i = an j) : i = j := (Prod.mk.inj h).2
def dueA (m : Nat) : List Nm := an 0 :: (List.range m).map fun i => an (i + 2)
theorem pA_pos {m : Nat} (h : 1 ≤ m) : pA m = m + 1 := by
  cases m with
  | zero => omega
  | succ m => rfl
theorem pA_ne (m : Nat) : pA m ≠ 1 := by
  cases m with
  | zero => decide
  | succ m => show m + 2 ≠ 1; omega
theorem memA {m : Nat} (hm : 1 ≤ m) {F : List Nm} (sub : ∀ a ∈ F, ∃ l ∈ LA m, l.1 = a) (cl : ∀ a, a ∈ F ↔ a = an (pA m) ∨ ∃ l ∈ LA m, l.1 ∈ F ∧ a ∈ dep l) (a : Nm) : a ∈ F ↔ a ∈ dueA m := by
  have no1 : an 1 ∉ F := fun h => by
    rcases (cl _).mp h with e | ⟨l, hl, _, h3⟩
    · exact pA_ne m (an_inj e).symm
    · rcases LA_mem.mp hl with rfl | rfl | ⟨i, _, rfl⟩
      · cases h3
      · cases h3
      · exact pA_ne i (an_inj (List.mem_singleton.mp h3)).symm
  have down : ∀ j, j < m → an ((m - 1 - j) + 2) ∈ F := fun j => by
    induction j with
    | zero =>
      intro _
      exact (cl _).mpr (.inl (by rw [pA_pos hm, show m - 1 - 0 + 2 = m + 1 by omega]))
    | succ j ih =>
      intro hj
      refine (cl _).mpr (.inr ⟨lp ((m - 1 - j) + 2) kn [an (pA (m - 1 - j))], LA_mem.mpr (.inr (.inr ⟨m - 1 - j, by omega, rfl⟩)), ih (by omega), ?_⟩)
      show an (m - 1 - (j + 1) + 2) ∈ [an (pA (m - 1 - j))]
      rw [pA_pos (by omega), show m - 1 - (j + 1) + 2 = m - 1 - j + 1 by omega]
      exact List.mem_singleton.mpr rfl
  constructor
  · intro h
    obtain ⟨l, hl, e⟩ := sub a h
    subst e
    rcases LA_mem.mp hl with rfl | rfl | ⟨i, hi, rfl⟩
    · exact List.mem_cons_self
    · exact absurd h no1
    · exact List.mem_cons_of_mem _ (List.mem_map.mpr ⟨i, List.mem_range.mpr hi, rfl⟩)
  · intro h
    rcases List.mem_cons.mp h with rfl | h
    · refine (cl _).mpr (.inr ⟨lp (0 + 2) kn [an (pA 0)], LA_mem.mpr (.inr (.inr ⟨0, by omega, rfl⟩)), ?_, List.mem_singleton.mpr rfl⟩)
      have := down (m - 1) (by omega)
      rw [show m - 1 - (m - 1) + 2 = 0 + 2 by omega] at this
      exact this
    · obtain ⟨i, hi, rfl⟩ := List.mem_map.mp h
      have hi := List.mem_range.mp hi
      have := down (m - 1 - i) (by omega)
      rw [show m - 1 - (m - 1 - i) + 2 = i + 2 by omega] at this
      exact this
/-! a column of joins of two -/
def LB (q : Str) : Nat → List Lp
  | 0 => [lp 0 tu [], lp 1 tu []]
  | i + 1 => (LB q i ++ [lp (2 * i + 2) (jn q) [an (2 * i), an (2 * i + 1)]]) ++ [lp (2 * i + 3) tu []]
theorem LB_len (q : Str) : ∀ i, (LB q i).length = 2 * i + 2
  | 0 => rfl
  | i + 1 => by
    show ((LB q i ++ _) ++ _).length = _
    rw [List.length_append, List.length_append, LB_len q i]
    show 2 * i + 2 + 1 + 1 = _
    omega
theorem LB_mem (q : Str) : ∀ {m : Nat} {l : Lp}, l ∈ LB q m ↔ l = lp 0 tu [] ∨ l = lp 1 tu [] ∨ ∃ i, i < m ∧ (l = lp (2 * i + 2) (jn q) [an (2 * i), an (2 * i + 1)] ∨ l = lp (2 * i + 3) tu [])
  | 0, l => by
    show l ∈ [_, _] ↔ _
    rw [List.mem_cons, List.mem_singleton]
    exact ⟨fun h => h.elim .inl fun h => .inr (.inl h), fun h => h.elim .inl fun h => h.elim .inr fun ⟨i, hi, _⟩ => absurd hi (Nat.not_lt_zero i)⟩
  | m + 1, l => by
    show l ∈ (LB q m ++ [_]) ++ [_] ↔ _
    rw [List.mem_append, List.mem_append, LB_mem q, List.mem_singleton, List.mem_singleton]
    constructor
    · rintro (((h | h | ⟨i, hi, h⟩) | h) | h)
      · exact .inl h
      · exact .inr (.inl h)
      · exact .inr (.inr ⟨i, by omega, h⟩)
      · exact .inr (.inr ⟨m, by omega, .inl h⟩)
      · exact .inr (.inr ⟨m, by omega, .inr h⟩)
    · rintro (h | h | ⟨i, hi, h⟩)
      · exact .inl (.inl (.inl h))
      · exact .inl (.inl (.inr (.inl h)))
      · by_cases e : i = m
        · subst e
          exact h.elim (fun h => .inl (.inr h)) .inr
        · exact .inl (.inl (.inr (.inr ⟨i, by omega, h⟩)))
theorem LB_all {q : Str} {m : Nat} : ∀ l ∈ LB q m, l.1.1 = "a" := fun l hl => by
  rcases (LB_mem q).mp hl with rfl | rfl | ⟨j, _, rfl | rfl⟩ <;> rfl
theorem LB_run (q : Str) : ∀ i, wlns (List.replicate i (wR [jn q, tu])) (tri [an 0, an 1] (LB q 0) []) = tri [an (2 * i), an (2 * i + 1)] (LB q i) []
  | 0 => rfl
  | i + 1 => by
    rw [List.replicate_succ', wlns_app, LB_run q i]
    show wln "right" [jn q, tu] (tri [an (2 * i), an (2 * i + 1)] (LB q i) []) = _
    have c1 : cnt (LB q i) "a" = 2 * i + 2 := by rw [cnt_all LB_all, LB_len]
    have c2 : cnt (LB q i ++ [lp (2 * i + 2) (jn q) [an (2 * i), an (2 * i + 1)]]) "a" = 2 * i + 3 := by
      rw [cnt_all fun l hl => ?_, List.length_append, LB_len]
      · rfl
      · rcases List.mem_append.mp hl with h | h
        · exact LB_all l h
        · rw [List.mem_singleton.mp h]
    rw [wln_join, c1, c2]
    rfl
abbrev lsB (q : Str) (m : Nat) : List Line := [wR [tu, tu]] ++ List.replicate m (wR [jn q, tu]) ++ [wR [dp', ps]]
theorem runB (q : Str) (m : Nat) : wlns (lsB q m) (tri [] [] []) = tri [an (2 * m + 1)] (LB q m) [an (2 * m)] := by
  rw [wlns_app, wlns_app]
  show wlns [wR [dp', ps]] (wlns _ (wln "right" [tu, tu] (tri [] [] []))) = _
  rw [wln_start]
  show wlns [wR [dp', ps]] (wlns _ (tri [an 0, an 1] (LB q 0) [])) = _
  rw [LB_run]
  show wln "right" [dp', ps] (tri [an (2 * m), an (2 * m + 1)] (LB q m) []) = _
  rw [wln_end]
  rfl
def dueB (m : Nat) : List Nm := (List.range (2 * m + 1)).map an
theorem dep_jn (q : Str) (k : Nat) (xs : List Nm) (a : Nm) : a ∈ dep (lp k (jn q) xs) ↔ a ∈ xs := by
  show a ∈ (if q = "right" then xs.reverse else xs) ↔ _
  split
  · exact List.mem_reverse
  · exact Iff.rfl
theorem memB {q : Str} {m : Nat} {F : List Nm} (sub : ∀ a ∈ F, ∃ l ∈ LB q m, l.1 = a) (cl : ∀ a, a ∈ F ↔ a = an (2 * m) ∨ ∃ l ∈ LB q m, l.1 ∈ F ∧ a ∈ dep l) (a : Nm) : a ∈ F ↔ a ∈ dueB m := by
  have no : an (2 * m + 1) ∉ F := fun h => by
    rcases (cl _).mp h with e | ⟨l, hl, _, h3⟩
    · have := an_inj e
      omega
    · rcases (LB_mem q).mp hl with rfl | rfl | ⟨i, hi, rfl | rfl⟩
      · cases h3
      · cases h3
      · rw [dep_jn, List.mem_cons, List.mem_singleton] at h3
        rcases h3 with h | h
        · have := an_inj h; omega
        · have := an_inj h; omega
      · cases h3
  have down : ∀ j, j ≤ m → an (2 * (m - j)) ∈ F := fun j => by
    induction j with
    | zero => exact fun _ => (cl _).mpr (.inl rfl)
    | succ j ih =>
      intro hj
      refine (cl _).mpr (.inr ⟨lp (2 * (m - (j + 1)) + 2) (jn q) [an (2 * (m - (j + 1))), an (2 * (m - (j + 1)) + 1)], (LB_mem q).mpr (.inr (.inr ⟨m - (j + 1), by omega, .inl rfl⟩)), ?_, (dep_jn _ _ _ _).mpr List.mem_cons_self⟩)
      have := ih (by omega)
      rw [show 2 * (m - j) = 2 * (m - (j + 1)) + 2 by omega] at this
      exact this
  constructor
  · intro h
    obtain ⟨l, hl, e⟩ := sub a h
    subst e
    have put : ∀ k, k ≤ 2 * m → an k ∈ dueB m := fun k hk => List.mem_map.mpr ⟨k, List.mem_range.mpr (by omega), rfl⟩
    rcases (LB_mem q).mp hl with rfl | rfl | ⟨i, hi, rfl | rfl⟩
    · exact put 0 (by omega)
    · by_cases e : m = 0
      · subst e
        exact absurd h no
      · exact put 1 (by omega)
    · exact put _ (by omega)
    · by_cases e : i + 1 = m
      · subst e
        rw [show 2 * (i + 1) + 1 = 2 * i + 3 by omega] at no
        exact absurd h no
      · exact put _ (by omega)
  · intro h
    obtain ⟨k, hk, rfl⟩ := List.mem_map.mp h
    have hk := List.mem_range.mp hk
    by_cases e : k % 2 = 0
    · have := down (m - k / 2) (by omega)
      rw [show 2 * (m - (m - k / 2)) = k by omega] at this
      exact this
    · refine (cl _).mpr (.inr ⟨lp (2 * (k / 2) + 2) (jn q) [an (2 * (k / 2)), an (2 * (k / 2) + 1)], (LB_mem q).mpr (.inr (.inr ⟨k / 2, by omega, .inl rfl⟩)), ?_, (dep_jn _ _ _ _).mpr ?_⟩)
      · have := down (m - k / 2 - 1) (by omega)
        rw [show 2 * (m - (m - k / 2 - 1)) = 2 * (k / 2) + 2 by omega] at this
        exact this
      · rw [show 2 * (k / 2) + 1 = k by omega]
        exact List.mem_cons_of_mem _ (List.mem_singleton.mpr rfl)
/-! in order -/
theorem le_an {i j : Nat} (h : i < j) : dataLe false dN (an i) (an j) = true := by
  show (!PyProof.Rows.lexLt PyProof.Rows.itemOrd (keyToks (dN (an j))) (keyToks (dN (an i)))) = true
  rw [toks_N, toks_N]
  have e1 : ∀ a, PyProof.Rows.itemLt a a = false := PyProof.Rows.itemOrd.irrefl
  have e2 : PyProof.Rows.itemLt (.inl (j : Int)) (.inl (i : Int)) = false := decide_eq_false (by omega)
  have e3 : PyProof.Rows.itemLt (.inl (i : Int)) (.inl (j : Int)) = true := decide_eq_true (by omega)
  simp only [PyProof.Rows.lexLt, e1, e2, e3, Bool.false_or, Bool.not_false, Bool.true_and, Bool.not_true, Bool.false_and]
theorem ord_due {ks : List Nat} (h : ks.Pairwise (· < ·)) : (ks.map an).Pairwise fun a b => dataLe false dN a b = true := List.pairwise_map.mpr (h.imp le_an)
theorem nodup_due {ks : List Nat} (h : ks.Pairwise (· < ·)) : (ks.map an).Nodup := List.pairwise_map.mpr (h.imp fun {i j} lt e => by have := an_inj e; omega)
theorem range_lt (n : Nat) : (List.range n).Pairwise (· < ·) := List.pairwise_lt_range
theorem dueA_ks (m : Nat) : dueA m = (0 :: (List.range m).map (· + 2)).map an := by
  rw [List.map_cons, List.map_map]
  rfl
theorem ksA (m : Nat) : (0 :: (List.range m).map (· + 2)).Pairwise (· < ·) := by
  refine List.pairwise_cons.mpr ⟨fun k hk => ?_, List.pairwise_map.mpr ((range_lt m).imp fun h => by omega)⟩
  obtain ⟨i, _, rfl⟩ := List.mem_map.mp hk
  omega
theorem same_sort {F due : List Nm} (nf : F.Nodup) (nd : due.Nodup) (h : ∀ a, a ∈ F ↔ a ∈ due) (hs : due.Pairwise fun a b => dataLe false dN a b = true) : srtN F = due :=
  srtN_eq (List.perm_iff_count.mpr fun a => by
    by_cases e : a ∈ F
    · rw [count1 nf e, count1 nd ((h a).mp e)]
    · rw [List.count_eq_zero.mpr e, List.count_eq_zero.mpr fun z => e ((h a).mpr z)]) hs
end Sh


set_option maxRecDepth 100000
set_option maxHeartbeats 4000000
namespace K04
open PySem L2 Evl Sh
def topS (i : Nat) : Stmt := PySem.Challenge.pw_heldloops_k04_loops_that_come_undone.main.body.getD i (.Pass ⟨0, 0, 0, 0⟩)
abbrev S_undone : Stmt := topS 1
abbrev N_undone : List Str := ["fabric", "under", "loop", "found", "waiting", "name"]
theorem sc_undone : FnScope N_undone ["fabric"] (defScope S_undone) := ⟨rfl, rfl, rfl, by decide +kernel, rfl, by decide +kernel, by decide +kernel⟩
abbrev S_state : Stmt := topS 3
abbrev N_state : List Str := ["script", "mixed", "rest"]
theorem sc_state : FnScope N_state ["script"] (defScope S_state) := ⟨rfl, rfl, rfl, by decide +kernel, rfl, by decide +kernel, by decide +kernel⟩
abbrev S_take : Stmt := topS 4
abbrev N_take : List Str := ["state", "many", "cell", "drawn"]
theorem sc_take : FnScope N_take ["state", "many"] (defScope S_take) := ⟨rfl, rfl, rfl, by decide +kernel, rfl, by decide +kernel, by decide +kernel⟩
abbrev S_yarn : Stmt := topS 5
abbrev N_yarn : List Str := ["state"]
theorem sc_yarn : FnScope N_yarn ["state"] (defScope S_yarn) := ⟨rfl, rfl, rfl, by decide +kernel, rfl, by decide +kernel, by decide +kernel⟩
abbrev S_join : Stmt := topS 6
abbrev N_join : List Str := ["state", "left", "count", "lean"]
theorem sc_join : FnScope N_join ["state", "left"] (defScope S_join) := ⟨rfl, rfl, rfl, by decide +kernel, rfl, by decide +kernel, by decide +kernel⟩
abbrev S_commands : Stmt := topS 7
abbrev N_commands : List Str := ["state", "count", "most", "commands", "left", "room", "n", "kind"]
theorem sc_commands : FnScope N_commands ["state", "count", "most"] (defScope S_commands) := ⟨rfl, rfl, rfl, by decide +kernel, rfl, by decide +kernel, by decide +kernel⟩
abbrev S_count : Stmt := topS 8
abbrev N_count : List Str := ["commands", "command"]
theorem sc_count : FnScope N_count ["commands"] (defScope S_count) := ⟨rfl, rfl, rfl, by decide +kernel, rfl, by decide +kernel, by decide +kernel⟩
abbrev S_chart : Stmt := topS 9
abbrev N_chart : List Str := ["state", "most", "lines", "chart", "n", "count", "exchanges", "k", "commands"]
theorem sc_chart : FnScope N_chart ["state", "most", "lines"] (defScope S_chart) := ⟨rfl, rfl, rfl, by decide +kernel, rfl, by decide +kernel, by decide +kernel⟩
noncomputable def b_chart : S :=
  (sSeq (sSet 3 (dCell (dLst (dCons (dTup (dCons (dC (.str "work")) (dCons (dC (.str "right")) (dCons (dPure (dLc (iR1 (dCons (dAdd (dCall m_take (dCons (dVar 0) (dCons (dVar 1) dNil))) (dC (.int 1))) dNil)) (gN 4) tYesW (dTup (dCons (dC (.str "tuck")) (dCons (dCall m_yarn (dCons (dVar 0) dNil)) dNil))) [4])) dNil)))) dNil))))
  (sSeq (sSet 5 (dCallB cLen (dCons (dOp oIx (dOp oIx (dVar 3) (dC (.int 0))) (dC (.int 2))) dNil)))
  (sSeq (sFor (iR1 (dCons (dCall m_take (dCons (dVar 0) (dCons (dVar 2) dNil))) dNil)) (gN 4)
  (sIf (dAnd (dB (dGt (dVar 5) (dC (.int 1)))) (dB (dEq (dCall m_take (dCons (dVar 0) (dCons (dC (.int 3)) dNil))) (dC (.int 1)))))
  (sSeq (sSet 6 (dCell (dLst dNil)))
  (sSeq (sFor (iR1 (dCons (dCall m_take (dCons (dVar 0) (dCons (dC (.int 4)) dNil))) dNil)) (gN 7)
  (sDrop (dBM tyL mAppend (dVar 6) (dCons (dTup (dCons (dCall m_take (dCons (dVar 0) (dCons (dSub (dVar 5) (dC (.int 1))) dNil))) (dCons (dOp oIx (dPure (dLst (dCons (dC (.str "left")) (dCons (dC (.str "right")) dNil)))) (dCall m_take (dCons (dVar 0) (dCons (dC (.int 2)) dNil)))) dNil))) dNil))))
  (sDrop (dBM tyL mAppend (dVar 3) (dCons (dTup (dCons (dC (.str "move")) (dCons (dFz (dVar 6)) dNil))) dNil)))))
  (sSeq (sSet 8 (dCall m_commands (dCons (dVar 0) (dCons (dVar 5) (dCons (dVar 1) dNil)))))
  (sSeq (sDrop (dBM tyL mAppend (dVar 3) (dCons (dTup (dCons (dC (.str "work")) (dCons (dOp oIx (dPure (dLst (dCons (dC (.str "right")) (dCons (dC (.str "left")) dNil)))) (dCall m_take (dCons (dVar 0) (dCons (dC (.int 2)) dNil)))) (dCons (dVar 8) dNil)))) dNil)))
  (sSet 5 (dCall m_count (dCons (dVar 8) dNil)))))))
  (sRet (dVar 3)))))
noncomputable def m_chart : List W → M W := dBody 3 9 b_chart
abbrev S_made : Stmt := topS 10
abbrev N_made : List Str := ["made", "yarn"]
theorem sc_made : FnScope N_made ["made", "yarn"] (defScope S_made) := ⟨rfl, rfl, rfl, by decide +kernel, rfl, by decide +kernel, by decide +kernel⟩
abbrev S_loop : Stmt := topS 11
abbrev N_loop : List Str := ["command", "taken"]
theorem sc_loop : FnScope N_loop ["command", "taken"] (defScope S_loop) := ⟨rfl, rfl, rfl, by decide +kernel, rfl, by decide +kernel, by decide +kernel⟩
abbrev S_taken : Stmt := topS 12
abbrev N_taken : List Str := ["command"]
theorem sc_taken : FnScope N_taken ["command"] (defScope S_taken) := ⟨rfl, rfl, rfl, by decide +kernel, rfl, by decide +kernel, by decide +kernel⟩
abbrev S_worked : Stmt := topS 13
abbrev N_worked : List Str := ["world", "direction", "commands", "row", "loops", "crossings", "dropped", "made", "starts", "command", "n", "after", "order", "taken", "name", "result", "names"]
theorem sc_worked : FnScope N_worked ["world", "direction", "commands"] (defScope S_worked) := ⟨rfl, rfl, rfl, by decide +kernel, rfl, by decide +kernel, by decide +kernel⟩
abbrev S_crossed : Stmt := topS 14
abbrev N_crossed : List Str := ["crossings", "over", "under"]
theorem sc_crossed : FnScope N_crossed ["crossings", "over", "under"] (defScope S_crossed) := ⟨rfl, rfl, rfl, by decide +kernel, rfl, by decide +kernel, by decide +kernel⟩
abbrev S_moved : Stmt := topS 15
abbrev N_moved : List Str := ["world", "exchanges", "row", "exchange", "one", "two"]
theorem sc_moved : FnScope N_moved ["world", "exchanges"] (defScope S_moved) := ⟨rfl, rfl, rfl, by decide +kernel, rfl, by decide +kernel, by decide +kernel⟩
abbrev S_done : Stmt := topS 16
abbrev N_done : List Str := ["chart", "world", "line"]
theorem sc_done : FnScope N_done ["chart"] (defScope S_done) := ⟨rfl, rfl, rfl, by decide +kernel, rfl, by decide +kernel, by decide +kernel⟩
abbrev S_record : Stmt := topS 17
abbrev N_record : List Str := ["loops", "crossings", "resting", "dropped", "rows", "name", "pairs", "pair"]
theorem sc_record : FnScope N_record ["loops", "crossings", "resting", "dropped"] (defScope S_record) := ⟨rfl, rfl, rfl, by decide +kernel, rfl, by decide +kernel, by decide +kernel⟩
abbrev S_fabric : Stmt := topS 18
abbrev N_fabric : List Str := ["chart", "world", "name"]
theorem sc_fabric : FnScope N_fabric ["chart"] (defScope S_fabric) := ⟨rfl, rfl, rfl, by decide +kernel, rfl, by decide +kernel, by decide +kernel⟩
abbrev S_child : Stmt := topS 19
abbrev N_child : List Str := ["fabric", "name", "row"]
theorem sc_child : FnScope N_child ["fabric", "name"] (defScope S_child) := ⟨rfl, rfl, rfl, by decide +kernel, rfl, by decide +kernel, by decide +kernel⟩
noncomputable def b_child : S :=
  (sSeq (sFor (iL (dOp oIx (dVar 0) (dC (.int 0)))) (gN 2)
  (sIf (dB (dOp oInD (dVar 1) (dOp oIx (dVar 2) (dC (.int 2)))))
  (sRet (dOp oIx (dVar 2) (dC (.int 0))))
  sNil))
  (sRet (dC .non)))
noncomputable def m_child : List W → M W := dBody 2 3 b_child
abbrev S_is_long_right : Stmt := topS 20
abbrev N_is_long_right : List Str := ["state", "many", "line", "due", "n", "chart", "fabric", "before"]
theorem sc_is_long_right : FnScope N_is_long_right ["state"] (defScope S_is_long_right) := ⟨rfl, rfl, rfl, by decide +kernel, rfl, by decide +kernel, by decide +kernel⟩
noncomputable def b_is_long_right : S :=
  (sSeq (sSet 1 (dAdd (dC (.int 900)) (dCall m_take (dCons (dVar 0) (dCons (dC (.int 500)) dNil)))))
  (sSeq (sSet 2 (dPure (dLst (dCons (dTup (dCons (dC (.str "knit")) (dCons (dC (.str "a")) dNil))) (dCons (dTup (dCons (dC (.str "pass")) dNil)) dNil)))))
  (sSeq (sSet 3 (dPure (dOpF oCat (dPure (dLst (dCons (dTup (dCons (dC (.str "a")) (dCons (dC (.int 0)) dNil))) dNil))) (dPure (dLc (iR2 (dCons (dC (.int 2)) (dCons (dAdd (dVar 1) (dC (.int 2))) dNil))) (gN 4) tYesW (dTup (dCons (dC (.str "a")) (dCons (dVar 4) dNil))) [4])))))
  (sSeq (sIf (dB (dEq (dCall m_take (dCons (dVar 0) (dCons (dC (.int 2)) dNil))) (dC (.int 1))))
  (sSeq (sSet 2 (dPure (dLst (dCons (dTup (dCons (dC (.str "join")) (dCons (dC (.int 2)) (dCons (dOp oIx (dPure (dLst (dCons (dC (.str "left")) (dCons (dC (.str "right")) dNil)))) (dCall m_take (dCons (dVar 0) (dCons (dC (.int 2)) dNil)))) (dCons (dC (.str "purl")) (dCons (dC (.str "a")) dNil)))))) (dCons (dTup (dCons (dC (.str "tuck")) (dCons (dC (.str "a")) dNil))) dNil)))))
  (sSet 3 (dPure (dLc (iR1 (dCons (dAdd (dMul (dC (.int 2)) (dVar 1)) (dC (.int 1))) dNil)) (gN 4) tYesW (dTup (dCons (dC (.str "a")) (dCons (dVar 4) dNil))) [4]))))
  sNil)
  (sSeq (sSet 5 (dPure (dOpF oCat (dPure (dLst (dCons (dTup (dCons (dC (.str "work")) (dCons (dC (.str "right")) (dCons (dPure (dLst (dCons (dTup (dCons (dC (.str "tuck")) (dCons (dC (.str "a")) dNil))) (dCons (dTup (dCons (dC (.str "tuck")) (dCons (dC (.str "a")) dNil))) dNil)))) dNil)))) dNil))) (dPure (dOpF oRep (dPure (dLst (dCons (dTup (dCons (dC (.str "work")) (dCons (dC (.str "right")) (dCons (dVar 2) dNil)))) dNil))) (dVar 1))))))
  (sSeq (sSet 6 (dCall m_fabric (dCons (dPure (dOpF oCat (dVar 5) (dPure (dLst (dCons (dTup (dCons (dC (.str "work")) (dCons (dC (.str "right")) (dCons (dPure (dLst (dCons (dTup (dCons (dC (.str "drop")) dNil)) (dCons (dTup (dCons (dC (.str "pass")) dNil)) dNil)))) dNil)))) dNil))))) dNil)))
  (sSeq (sSet 7 (dCallB cRepr (dCons (dVar 6) dNil)))
  (sRet (dAndV (dEq (dCallB cRepr (dCons (dCall m_undone (dCons (dVar 6) dNil)) dNil)) (dCallB cRepr (dCons (dVar 3) dNil))) (dEq (dCallB cRepr (dCons (dVar 6) dNil)) (dVar 7)))))))))))
noncomputable def m_is_long_right : List W → M W := dBody 1 8 b_is_long_right
abbrev S_law : Stmt := topS 21
abbrev N_law : List Str := ["script", "state", "chart", "name", "fabric", "due", "row", "last", "n", "before"]
theorem sc_law : FnScope N_law ["script"] (defScope S_law) := ⟨rfl, rfl, rfl, by decide +kernel, rfl, by decide +kernel, by decide +kernel⟩
noncomputable def b_law : S :=
  (sSeq (sSet 1 (dCall m_state (dCons (dVar 0) dNil)))
  (sSeq (sIf (dAnd (dB (dEq (dCall m_take (dCons (dVar 1) (dCons (dC (.int 8)) dNil))) (dC (.int 1)))) (dNot (dTru (dCall m_is_long_right (dCons (dVar 1) dNil)))))
  (sRet (dC (.bl false)))
  sNil)
  (sSeq (sSet 2 (dCall m_chart (dCons (dVar 1) (dCons (dC (.int 7)) (dCons (dC (.int 9)) dNil)))))
  (sSeq (sIf (dB (dEq (dCall m_take (dCons (dVar 1) (dCons (dC (.int 2)) dNil))) (dC (.int 1))))
  (sDrop (dBM tyL mAppend (dVar 2) (dCons (dTup (dCons (dC (.str "work")) (dCons (dC (.str "right")) (dCons (dPure (dLc (iL (dOp oIx (dCall m_done (dCons (dVar 2) dNil)) (dC (.int 0)))) (gN 3) tYesW (dOp oIx (dPure (dLst (dCons (dTup (dCons (dC (.str "drop")) dNil)) (dCons (dTup (dCons (dC (.str "pass")) dNil)) dNil)))) (dCall m_take (dCons (dVar 1) (dCons (dC (.int 2)) dNil)))) [3])) dNil)))) dNil)))
  sNil)
  (sSeq (sSet 4 (dCall m_fabric (dCons (dVar 2) dNil)))
  (sSeq (sSet 5 (dCell (dLst dNil)))
  (sSeq (sFor (iL (dOp oIx (dVar 4) (dC (.int 0)))) (gN 6)
  (sSeq (sSet 3 (dOp oIx (dVar 6) (dC (.int 0))))
  (sSeq (sSet 7 (dVar 3))
  (sSeq (sFor (iR1 (dCons (dCallB cLen (dCons (dOp oIx (dVar 4) (dC (.int 0))) dNil)) dNil)) (gN 8)
  (sSeq (sSet 3 (dCall m_child (dCons (dVar 4) (dCons (dVar 7) dNil))))
  (sSeq (sIf (dB (dIsN (dVar 3) (dC .non)))
  sBreak
  sNil)
  (sSet 7 (dVar 3)))))
  (sIf (dB (dOp oInD (dVar 7) (dOp oIx (dVar 4) (dC (.int 3)))))
  (sDrop (dBM tyL mAppend (dVar 5) (dCons (dOp oIx (dVar 6) (dC (.int 0))) dNil)))
  sNil)))))
  (sSeq (sSet 9 (dCallB cRepr (dCons (dVar 4) dNil)))
  (sRet (dAndV (dEq (dCallB cRepr (dCons (dCall m_undone (dCons (dVar 4) dNil)) dNil)) (dCallB cRepr (dCons (dVar 5) dNil))) (dEq (dCallB cRepr (dCons (dVar 4) dNil)) (dVar 9))))))))))))
noncomputable def m_law : List W → M W := dBody 1 10 b_law
section
variable [Wd] {P : Program} {w : World} {K : PySem.W.Frag} {mg : MG} {base : Heap} {f : Addr} {fd : FuncData}
theorem has_undone (F : Fun K "undone" "undone" S_undone f fd) (g : mg "undone" = some (.ref f)) (b : Binds K fd ["fabric"] []) (z_list : mg "list" = none) (z_sorted : mg "sorted" = none) (hW : P = Wd.P ∧ w = Wd.w) :
    Has P w K mg base 1 "undone" ["fabric"] m_undone :=
  has_mk F g b sc_undone (by decide) fun cdv A outer sh H E hr =>
  (jss_cons (js_setDcN (own := [("loop", 2)]) (i := 1) hW hr.units rfl sc_undone.nd rfl rfl (sw_trueD rfl rfl rfl (by decide +kernel)) (ji_list (je_at (je_var 0) je_int)) (blkOk_by (own := [("loop", 2)]) (N := N_undone) (sc := defScope S_undone) (by decide +kernel)) (fun _ _ _ _ _ => (jg_name (i := 2) sc_undone.nd rfl)) (fun _ _ _ _ _ => jts_nil) (fun _ _ _ _ _ => (je_at (je_var 2) je_int)) (fun _ _ _ _ _ => (je_at (je_var 2) je_int)))
  (jss_cons (js_set (i := 3) sc_undone.nd rfl (je_dictN hW))
  (jss_cons (js_set (i := 4) sc_undone.nd rfl (je_cell (jf_list (by rfl) z_list (ja_cons (je_at (je_var 0) je_int) ja_nil))))
  (jss_cons (js_while PassesOwn.never (jt_tru (je_var 4))
  (jss_cons (js_set (i := 5) sc_undone.nd rfl (je_pop (je_var 4)))
  (jss_one (js_if (jt_notInN hW hr.units (je_var 5) (je_var 3))
  (jss_cons (js_asg je_bl (jg_atN hW hr.units (je_var 3) (je_var 5)))
  (jss_one (js_expr (je_extend (je_var 4) (ja_cons (je_atN hW hr.units (je_var 1) (je_var 5)) ja_nil)))))
  jss_nil))))
  (jss_one (js_ret (je_pure (jf_sortedN hW rfl hr.units (by rfl) z_sorted (ja_cons (je_var 3) ja_nil)))))))))
theorem has_state (F : Fun K "_law_state" "_law_state" S_state f fd) (g : mg "_law_state" = some (.ref f)) (b : Binds K fd ["script"] []) (z_abs : mg "abs" = none) (z_int : mg "int" = none) (z_len : mg "len" = none) (hW : P = Wd.P ∧ w = Wd.w) :
    Has P w K mg base 1 "_law_state" ["script"] m_state :=
  has_mk F g b sc_state (by decide) fun cdv A outer sh H E hr =>
  (jss_cons (js_set (i := 1) sc_state.nd rfl je_int)
  (jss_cons (js_set (i := 2) sc_state.nd rfl je_int)
  (jss_cons (js_if (jt_gt (je_len (by rfl) z_len (ja_cons (je_var 0) ja_nil)) je_int)
  (jss_cons (js_set (i := 1) sc_state.nd rfl (je_mod (je_int1 (by rfl) z_int (ja_cons (je_at (je_var 0) je_int) ja_nil)) je_int))
  (jss_one (js_set (i := 2) sc_state.nd rfl (je_at (je_pure (jf_lst (ja_cons (je_fdiv (je_abs (by rfl) z_abs (ja_cons (je_at (je_var 0) je_int) ja_nil)) je_int) (ja_cons je_int ja_nil)))) (je_var 1)))))
  jss_nil)
  (jss_one (js_ret (je_cell (jf_lst (ja_cons (je_var 0) (ja_cons (je_var 2) (ja_cons je_int (ja_cons (je_var 1) (ja_cons (je_pure (jf_lst ja_nil)) (ja_cons je_int (ja_cons je_int (ja_cons je_int ja_nil)))))))))))))))
theorem has_take (F : Fun K "_law_take" "_law_take" S_take f fd) (g : mg "_law_take" = some (.ref f)) (b : Binds K fd ["state", "many"] []) (z_abs : mg "abs" = none) (z_int : mg "int" = none) (z_len : mg "len" = none) (hW : P = Wd.P ∧ w = Wd.w) :
    Has P w K mg base 1 "_law_take" ["state", "many"] m_take :=
  has_mk F g b sc_take (by decide) fun cdv A outer sh H E hr =>
  (jss_cons (js_if (jt_eq hr.units (je_at (je_var 0) je_int) je_int)
  (jss_cons (js_set (i := 2) sc_take.nd rfl (je_at (je_at (je_var 0) je_int) (je_mod (je_int1 (by rfl) z_int (ja_cons (je_at (je_var 0) je_int) ja_nil)) (je_len (by rfl) z_len (ja_cons (je_at (je_var 0) je_int) ja_nil)))))
  (jss_cons (js_asg (je_mod (je_int1 (by rfl) z_int (ja_cons (je_add (je_add (je_add (je_mul (je_at (je_var 0) je_int) je_int) (je_mul (je_var 2) je_int)) (je_mul (je_at (je_var 0) je_int) je_int)) je_int) ja_nil)) je_int) (jg_at (je_var 0) je_int))
  (jss_cons (js_asg (je_add (je_at (je_var 0) je_int) je_int) (jg_at (je_var 0) je_int))
  (jss_one (js_ret (je_mod (je_mod (je_int1 (by rfl) z_int (ja_cons (je_add (je_mul (je_at (je_var 0) je_int) je_int) je_int) ja_nil)) je_int) (je_var 1)))))))
  jss_nil)
  (jss_cons (js_if (jt_eq hr.units (je_at (je_var 0) je_int) je_int)
  (jss_cons (js_if (jt_ge (je_at (je_var 0) je_int) (je_len (by rfl) z_len (ja_cons (je_at (je_var 0) je_int) ja_nil)))
  (jss_one (js_ret je_int))
  jss_nil)
  (jss_cons (js_asg (je_abs (by rfl) z_abs (ja_cons (je_at (je_at (je_var 0) je_int) (je_at (je_var 0) je_int)) ja_nil)) (jg_at (je_var 0) je_int))
  (jss_one (js_asg (je_add (je_at (je_var 0) je_int) je_int) (jg_at (je_var 0) je_int)))))
  jss_nil)
  (jss_cons (js_set (i := 3) sc_take.nd rfl (je_mod (je_int1 (by rfl) z_int (ja_cons (je_at (je_var 0) je_int) ja_nil)) (je_var 1)))
  (jss_cons (js_asg (je_fdiv (je_at (je_var 0) je_int) (je_var 1)) (jg_at (je_var 0) je_int))
  (jss_one (js_ret (je_var 3)))))))
theorem has_yarn (F : Fun K "_law_yarn" "_law_yarn" S_yarn f fd) (g : mg "_law_yarn" = some (.ref f)) (b : Binds K fd ["state"] []) (h_take : Has P w K mg base 1 "_law_take" ["state", "many"] m_take) (hW : P = Wd.P ∧ w = Wd.w) :
    Has P w K mg base 2 "_law_yarn" ["state"] m_yarn :=
  has_mk F g b sc_yarn (by decide) fun cdv A outer sh H E hr =>
  (jss_one (js_ret (je_at (je_pure (jf_lst (ja_cons je_str (ja_cons je_str (ja_cons je_str (ja_cons je_str ja_nil)))))) (je_def h_take hr (ja_cons (je_var 0) (ja_cons je_int ja_nil))))))
theorem has_join (F : Fun K "_law_join" "_law_join" S_join f fd) (g : mg "_law_join" = some (.ref f)) (b : Binds K fd ["state", "left"] []) (h_take : Has P w K mg base 1 "_law_take" ["state", "many"] m_take) (h_yarn : Has P w K mg base 2 "_law_yarn" ["state"] m_yarn) (z_min : mg "min" = none) (hW : P = Wd.P ∧ w = Wd.w) :
    Has P w K mg base 3 "_law_join" ["state", "left"] m_join :=
  has_mk F g b sc_join (by decide) fun cdv A outer sh H E hr =>
  (jss_cons (js_set (i := 2) sc_join.nd rfl (je_add je_int (je_def h_take hr (ja_cons (je_var 0) (ja_cons (je_min2 rfl (by rfl) z_min (ja_cons je_int (ja_cons (je_sub (je_var 1) je_int) ja_nil))) ja_nil)))))
  (jss_cons (js_set (i := 3) sc_join.nd rfl (je_at (je_pure (jf_lst (ja_cons je_str (ja_cons je_str ja_nil)))) (je_def h_take hr (ja_cons (je_var 0) (ja_cons je_int ja_nil)))))
  (jss_one (js_ret (je_tup (ja_cons je_str (ja_cons (je_var 2) (ja_cons (je_var 3) (ja_cons (je_at (je_pure (jf_lst (ja_cons je_str (ja_cons je_str ja_nil)))) (je_def h_take hr (ja_cons (je_var 0) (ja_cons je_int ja_nil)))) (ja_cons (je_def h_yarn hr (ja_cons (je_var 0) ja_nil)) ja_nil))))))))))
theorem has_commands (F : Fun K "_law_commands" "_law_commands" S_commands f fd) (g : mg "_law_commands" = some (.ref f)) (b : Binds K fd ["state", "count", "most"] []) (h_take : Has P w K mg base 1 "_law_take" ["state", "many"] m_take) (h_yarn : Has P w K mg base 2 "_law_yarn" ["state"] m_yarn) (h_join : Has P w K mg base 3 "_law_join" ["state", "left"] m_join) (z_int : mg "int" = none) (z_range : mg "range" = none) (hW : P = Wd.P ∧ w = Wd.w) :
    Has P w K mg base 4 "_law_commands" ["state", "count", "most"] m_commands :=
  has_mk F g b sc_commands (by decide) fun cdv A outer sh H E hr =>
  (jss_cons (js_set (i := 3) sc_commands.nd rfl (je_cell (jf_lst ja_nil)))
  (jss_cons (js_set (i := 4) sc_commands.nd rfl (je_var 1))
  (jss_cons (js_set (i := 5) sc_commands.nd rfl (je_sub (je_var 2) (je_var 1)))
  (jss_cons (js_for PassesOwn.never rfl (ji_range1 (by rfl) z_range (ja_cons (je_add (je_var 1) je_int) ja_nil)) (jg_name (i := 6) sc_commands.nd rfl)
  (jss_cons (js_set (i := 7) sc_commands.nd rfl (je_def h_take hr (ja_cons (je_var 0) (ja_cons je_int ja_nil))))
  (jss_one (js_if (jt_w (jw_and (jt_gt (je_var 5) je_int) (jw_and1 (jt_w (jw_or (jt_eq hr.units (je_var 7) je_int) (jw_or1 (jt_w (jw_and (jt_eq hr.units (je_var 4) je_int) (jw_and1 (jt_lt (je_var 7) je_int))))))))))
  (jss_cons (js_expr (je_append (je_var 3) (ja_cons (je_tup (ja_cons je_str (ja_cons (je_def h_yarn hr (ja_cons (je_var 0) ja_nil)) ja_nil))) ja_nil)))
  (jss_one (js_set (i := 5) sc_commands.nd rfl (je_sub (je_var 5) je_int))))
  (jss_one (js_if (jt_w (jw_and (jt_eq hr.units (je_var 7) je_int) (jw_and1 (jt_gt (je_var 4) je_int))))
  (jss_cons (js_expr (je_append (je_var 3) (ja_cons (je_def h_join hr (ja_cons (je_var 0) (ja_cons (je_var 4) ja_nil))) ja_nil)))
  (jss_one (js_set (i := 4) sc_commands.nd rfl (je_sub (je_var 4) (je_at (je_at (je_var 3) (je_neg je_int)) je_int)))))
  (jss_one (js_if (jt_w (jw_and (jt_eq hr.units (je_var 7) je_int) (jw_and1 (jt_gt (je_var 4) je_int))))
  (jss_cons (js_expr (je_append (je_var 3) (ja_cons (je_tup (ja_cons je_str ja_nil)) ja_nil)))
  (jss_one (js_set (i := 4) sc_commands.nd rfl (je_sub (je_var 4) je_int))))
  (jss_one (js_if (jt_w (jw_and (jt_eq hr.units (je_var 7) je_int) (jw_and1 (jt_gt (je_var 4) je_int))))
  (jss_cons (js_expr (je_append (je_var 3) (ja_cons (je_tup (ja_cons je_str ja_nil)) ja_nil)))
  (jss_one (js_set (i := 4) sc_commands.nd rfl (je_sub (je_var 4) je_int))))
  (jss_one (js_if (jt_gt (je_var 4) je_int)
  (jss_cons (js_expr (je_append (je_var 3) (ja_cons (je_tup (ja_cons (je_at (je_pure (jf_lst (ja_cons je_str (ja_cons je_str ja_nil)))) (je_mod (je_int1 (by rfl) z_int (ja_cons (je_var 7) ja_nil)) je_int)) (ja_cons (je_def h_yarn hr (ja_cons (je_var 0) ja_nil)) ja_nil))) ja_nil)))
  (jss_one (js_set (i := 4) sc_commands.nd rfl (je_sub (je_var 4) je_int))))
  jss_nil))))))))))))
  (jss_one (js_ret (je_pure (jf_cat (je_var 3) (je_pure (jf_rep (je_pure (jf_lst (ja_cons (je_tup (ja_cons je_str (ja_cons je_str ja_nil))) ja_nil))) (je_var 4)))))))))))
theorem has_count (F : Fun K "_law_count" "_law_count" S_count f fd) (g : mg "_law_count" = some (.ref f)) (b : Binds K fd ["commands"] []) (z_int : mg "int" = none) (z_sum : mg "sum" = none) (hW : P = Wd.P ∧ w = Wd.w) :
    Has P w K mg base 1 "_law_count" ["commands"] m_count :=
  has_mk F g b sc_count (by decide) fun cdv A outer sh H E hr =>
  (jss_one (js_ret (je_sum rfl (by rfl) z_sum (ja_cons (je_pure (jf_lc (own := [("command", 1)]) rfl sc_count.nd (ji_list (je_var 0)) (blkOk_by (own := [("command", 1)]) (N := N_count) (sc := defScope S_count) (by decide +kernel)) (fun _ _ _ _ _ => (jg_name (i := 1) sc_count.nd rfl)) (fun _ _ _ _ _ => jts_nil) (fun _ _ _ _ _ => (je_int1 (by rfl) z_int (ja_cons (je_ne hr.units (je_at (je_var 1) je_int) je_str) ja_nil))))) ja_nil))))
theorem has_chart (F : Fun K "_law_chart" "_law_chart" S_chart f fd) (g : mg "_law_chart" = some (.ref f)) (b : Binds K fd ["state", "most", "lines"] []) (h_take : Has P w K mg base 1 "_law_take" ["state", "many"] m_take) (h_yarn : Has P w K mg base 2 "_law_yarn" ["state"] m_yarn) (h_commands : Has P w K mg base 4 "_law_commands" ["state", "count", "most"] m_commands) (h_count : Has P w K mg base 1 "_law_count" ["commands"] m_count) (z_len : mg "len" = none) (z_range : mg "range" = none) (hW : P = Wd.P ∧ w = Wd.w) :
    Has P w K mg base 5 "_law_chart" ["state", "most", "lines"] m_chart :=
  has_mk F g b sc_chart (by decide) fun cdv A outer sh H E hr =>
  (jss_cons (js_set (i := 3) sc_chart.nd rfl (je_cell (jf_lst (ja_cons (je_tup (ja_cons je_str (ja_cons je_str (ja_cons (je_pure (jf_lc (own := [("n", 4)]) rfl sc_chart.nd (ji_range1 (by rfl) z_range (ja_cons (je_add (je_def h_take hr (ja_cons (je_var 0) (ja_cons (je_var 1) ja_nil))) je_int) ja_nil)) (blkOk_by (own := [("n", 4)]) (N := N_chart) (sc := defScope S_chart) (by decide +kernel)) (fun _ _ _ _ _ => (jg_name (i := 4) sc_chart.nd rfl)) (fun _ _ _ _ _ => jts_nil) (fun _ _ _ _ _ => (je_tup (ja_cons je_str (ja_cons (je_def h_yarn hr (ja_cons (je_var 0) ja_nil)) ja_nil)))))) ja_nil)))) ja_nil))))
  (jss_cons (js_set (i := 5) sc_chart.nd rfl (je_len (by rfl) z_len (ja_cons (je_at (je_at (je_var 3) je_int) je_int) ja_nil)))
  (jss_cons (js_for PassesOwn.never rfl (ji_range1 (by rfl) z_range (ja_cons (je_def h_take hr (ja_cons (je_var 0) (ja_cons (je_var 2) ja_nil))) ja_nil)) (jg_name (i := 4) sc_chart.nd rfl)
  (jss_one (js_if (jt_w (jw_and (jt_gt (je_var 5) je_int) (jw_and1 (jt_eq hr.units (je_def h_take hr (ja_cons (je_var 0) (ja_cons je_int ja_nil))) je_int))))
  (jss_cons (js_set (i := 6) sc_chart.nd rfl (je_cell (jf_lst ja_nil)))
  (jss_cons (js_for PassesOwn.never rfl (ji_range1 (by rfl) z_range (ja_cons (je_def h_take hr (ja_cons (je_var 0) (ja_cons je_int ja_nil))) ja_nil)) (jg_name (i := 7) sc_chart.nd rfl)
  (jss_one (js_expr (je_append (je_var 6) (ja_cons (je_tup (ja_cons (je_def h_take hr (ja_cons (je_var 0) (ja_cons (je_sub (je_var 5) je_int) ja_nil))) (ja_cons (je_at (je_pure (jf_lst (ja_cons je_str (ja_cons je_str ja_nil)))) (je_def h_take hr (ja_cons (je_var 0) (ja_cons je_int ja_nil)))) ja_nil))) ja_nil)))))
  (jss_one (js_expr (je_append (je_var 3) (ja_cons (je_tup (ja_cons je_str (ja_cons (je_fz (je_var 6)) ja_nil))) ja_nil))))))
  (jss_cons (js_set (i := 8) sc_chart.nd rfl (je_def h_commands hr (ja_cons (je_var 0) (ja_cons (je_var 5) (ja_cons (je_var 1) ja_nil)))))
  (jss_cons (js_expr (je_append (je_var 3) (ja_cons (je_tup (ja_cons je_str (ja_cons (je_at (je_pure (jf_lst (ja_cons je_str (ja_cons je_str ja_nil)))) (je_def h_take hr (ja_cons (je_var 0) (ja_cons je_int ja_nil)))) (ja_cons (je_var 8) ja_nil)))) ja_nil)))
  (jss_one (js_set (i := 5) sc_chart.nd rfl (je_def h_count hr (ja_cons (je_var 8) ja_nil)))))))))
  (jss_one (js_ret (je_var 3))))))
theorem has_made (F : Fun K "_law_made" "_law_made" S_made f fd) (g : mg "_law_made" = some (.ref f)) (b : Binds K fd ["made", "yarn"] [])  (hW : P = Wd.P ∧ w = Wd.w) :
    Has P w K mg base 1 "_law_made" ["made", "yarn"] m_made :=
  has_mk F g b sc_made (by decide) fun cdv A outer sh H E hr =>
  (jss_cons (js_asg (je_add (je_getK hr.units (je_var 0) (je_var 1) (je_neg je_int)) je_int) (jg_atK hr.units (je_var 0) (je_var 1)))
  (jss_one (js_ret (je_tup (ja_cons (je_var 1) (ja_cons (je_atK hr.units (je_var 0) (je_var 1)) ja_nil))))))
theorem has_loop (F : Fun K "_law_loop" "_law_loop" S_loop f fd) (g : mg "_law_loop" = some (.ref f)) (b : Binds K fd ["command", "taken"] []) (z_list : mg "list" = none) (hW : P = Wd.P ∧ w = Wd.w) :
    Has P w K mg base 1 "_law_loop" ["command", "taken"] m_loop :=
  has_mk F g b sc_loop (by decide) fun cdv A outer sh H E hr =>
  (jss_cons (js_if (jt_eq hr.units (je_at (je_var 0) je_int) je_str)
  (jss_one (js_ret (je_tup (ja_cons je_str (ja_cons (je_pure (jf_lst ja_nil)) (ja_cons (je_pure (jf_lst ja_nil)) ja_nil))))))
  jss_nil)
  (jss_cons (js_if (jt_ne hr.units (je_at (je_var 0) je_int) je_str)
  (jss_one (js_ret (je_tup (ja_cons (je_at (je_var 0) je_int) (ja_cons (je_pure (jf_list (by rfl) z_list (ja_cons (je_var 1) ja_nil))) (ja_cons (je_pure (jf_list (by rfl) z_list (ja_cons (je_var 1) ja_nil))) ja_nil))))))
  jss_nil)
  (jss_cons (js_if (jt_eq hr.units (je_at (je_var 0) je_int) je_str)
  (jss_one (js_ret (je_tup (ja_cons (je_at (je_var 0) je_int) (ja_cons (je_pure (jf_rev (je_var 1))) (ja_cons (je_pure (jf_list (by rfl) z_list (ja_cons (je_var 1) ja_nil))) ja_nil))))))
  jss_nil)
  (jss_one (js_ret (je_tup (ja_cons (je_at (je_var 0) je_int) (ja_cons (je_pure (jf_list (by rfl) z_list (ja_cons (je_var 1) ja_nil))) (ja_cons (je_pure (jf_list (by rfl) z_list (ja_cons (je_var 1) ja_nil))) ja_nil)))))))))
theorem has_taken (F : Fun K "_law_taken" "_law_taken" S_taken f fd) (g : mg "_law_taken" = some (.ref f)) (b : Binds K fd ["command"] []) (z_int : mg "int" = none) (hW : P = Wd.P ∧ w = Wd.w) :
    Has P w K mg base 1 "_law_taken" ["command"] m_taken :=
  has_mk F g b sc_taken (by decide) fun cdv A outer sh H E hr =>
  (jss_cons (js_if (jt_eq hr.units (je_at (je_var 0) je_int) je_str)
  (jss_one (js_ret (je_at (je_var 0) je_int)))
  jss_nil)
  (jss_one (js_ret (je_int1 (by rfl) z_int (ja_cons (je_ne hr.units (je_at (je_var 0) je_int) je_str) ja_nil)))))
theorem has_worked (F : Fun K "_law_worked" "_law_worked" S_worked f fd) (g : mg "_law_worked" = some (.ref f)) (b : Binds K fd ["world", "direction", "commands"] []) (h_made : Has P w K mg base 1 "_law_made" ["made", "yarn"] m_made) (h_loop : Has P w K mg base 1 "_law_loop" ["command", "taken"] m_loop) (h_taken : Has P w K mg base 1 "_law_taken" ["command"] m_taken) (z_len : mg "len" = none) (z_list : mg "list" = none) (z_range : mg "range" = none) (z_sum : mg "sum" = none) (hW : P = Wd.P ∧ w = Wd.w) :
    Has P w K mg base 2 "_law_worked" ["world", "direction", "commands"] m_worked :=
  has_mk F g b sc_worked (by decide) fun cdv A outer sh H E hr =>
  (jss_cons (js_asg (je_var 0) (jg_lst rfl (jgs_cons (jg_name (i := 3) sc_worked.nd rfl) (jgs_cons (jg_name (i := 4) sc_worked.nd rfl) (jgs_cons (jg_name (i := 5) sc_worked.nd rfl) (jgs_cons (jg_name (i := 6) sc_worked.nd rfl) (jgs_cons (jg_name (i := 7) sc_worked.nd rfl) jgs_nil))))) (gs_len (gs_len (gs_len (gs_len (gs_len gs_len0)))))))
  (jss_cons (js_setLc (own := [("n", 10)]) (i := 8) (f := dPure) (fun d σ H Q h => pure_read h) rfl sc_worked.nd rfl rfl (sw_true rfl rfl rfl (by decide +kernel)) (ji_range1 (by rfl) z_range (ja_cons (je_len (by rfl) z_len (ja_cons (je_var 2) ja_nil)) ja_nil)) (blkOk_by (own := [("n", 10)]) (N := N_worked) (sc := defScope S_worked) (by decide +kernel)) (fun _ _ _ _ _ => (jg_name (i := 10) sc_worked.nd rfl)) (fun _ _ _ _ _ => jts_nil) (fun _ _ _ _ _ => (je_sum rfl (by rfl) z_sum (ja_cons (je_pure (jf_lc (own := [("command", 9)]) rfl sc_worked.nd (ji_list (je_pure (jf_slice (je_var 2) jo_none (jo_some (je_var 10))))) (blkOk_by (own := [("command", 9)]) (by rfl)) (fun _ _ _ _ _ => (jg_name (i := 9) sc_worked.nd rfl)) (fun _ _ _ _ _ => jts_nil) (fun _ _ _ _ _ => (je_def h_taken hr (ja_cons (je_var 9) ja_nil))))) ja_nil))))
  (jss_cons (js_setLc (own := [("command", 9)]) (i := 11) (f := dCell) (fun d σ H Q h => cell_read h) rfl sc_worked.nd rfl rfl (sw_true rfl rfl rfl (by decide +kernel)) (ji_list (je_var 2)) (blkOk_by (own := [("command", 9)]) (N := N_worked) (sc := defScope S_worked) (by decide +kernel)) (fun _ _ _ _ _ => (jg_name (i := 9) sc_worked.nd rfl)) (fun _ _ _ _ _ => jts_nil) (fun _ _ _ _ _ => (je_pure (jf_lst ja_nil))))
  (jss_cons (js_set (i := 12) sc_worked.nd rfl (je_cell (jf_listR rfl (by rfl) z_list (by rfl) z_range (je_len (by rfl) z_len (ja_cons (je_var 2) ja_nil)))))
  (jss_cons (js_if (jt_eq hr.units (je_var 1) je_str)
  (jss_one (js_expr (je_reverse (je_var 12))))
  jss_nil)
  (jss_cons (js_for PassesOwn.never rfl (ji_list (je_var 12)) (jg_name (i := 10) sc_worked.nd rfl)
  (jss_cons (js_set (i := 9) sc_worked.nd rfl (je_at (je_var 2) (je_var 10)))
  (jss_cons (js_set (i := 13) sc_worked.nd rfl (je_pure (jf_slice (je_var 3) (jo_some (je_at (je_var 8) (je_var 10))) (jo_some (je_add (je_at (je_var 8) (je_var 10)) (je_def h_taken hr (ja_cons (je_var 9) ja_nil)))))))
  (jss_one (js_if (jt_eq hr.units (je_at (je_var 9) je_int) je_str)
  (jss_one (js_asg (je_var 13) (jg_at (je_var 11) (je_var 10))))
  (jss_one (js_if (jt_eq hr.units (je_at (je_var 9) je_int) je_str)
  (jss_one (js_expr (je_extend (je_var 6) (ja_cons (je_var 13) ja_nil))))
  (jss_cons (js_set (i := 14) sc_worked.nd rfl (je_def h_made hr (ja_cons (je_var 7) (ja_cons (je_at (je_var 9) (je_neg je_int)) ja_nil))))
  (jss_cons (js_asg (je_def h_loop hr (ja_cons (je_var 9) (ja_cons (je_var 13) ja_nil))) (jg_atN hW hr.units (je_var 4) (je_var 14)))
  (jss_one (js_asg (je_pure (jf_lst (ja_cons (je_var 14) ja_nil))) (jg_at (je_var 11) (je_var 10)))))))))))))
  (jss_cons (js_set (i := 15) sc_worked.nd rfl (je_pure (jf_lst ja_nil)))
  (jss_cons (js_for PassesOwn.never rfl (ji_list (je_var 11)) (jg_name (i := 16) sc_worked.nd rfl)
  (jss_one (js_set (i := 15) sc_worked.nd rfl (je_pure (jf_cat (je_var 15) (je_var 16))))))
  (jss_one (js_ret (je_pure (jf_lst (ja_cons (je_var 15) (ja_cons (je_var 4) (ja_cons (je_var 5) (ja_cons (je_var 6) (ja_cons (je_var 7) ja_nil)))))))))))))))))
theorem has_crossed (F : Fun K "_law_crossed" "_law_crossed" S_crossed f fd) (g : mg "_law_crossed" = some (.ref f)) (b : Binds K fd ["crossings", "over", "under"] []) (z_max : mg "max" = none) (z_min : mg "min" = none) (hW : P = Wd.P ∧ w = Wd.w) :
    Has P w K mg base 1 "_law_crossed" ["crossings", "over", "under"] m_crossed :=
  has_mk F g b sc_crossed (by decide) fun cdv A outer sh H E hr =>
  (jss_one (js_expr (je_append (je_defN hW hr.units (je_var 0) (ja_cons (je_tup (ja_cons (je_min2D rfl hr.units (by rfl) z_min (ja_cons (je_var 1) (ja_cons (je_var 2) ja_nil))) (ja_cons (je_max2D rfl hr.units (by rfl) z_max (ja_cons (je_var 1) (ja_cons (je_var 2) ja_nil))) ja_nil))) (ja_cons (je_cell (jf_lst ja_nil)) ja_nil))) (ja_cons (je_var 1) ja_nil))))
theorem has_moved (F : Fun K "_law_moved" "_law_moved" S_moved f fd) (g : mg "_law_moved" = some (.ref f)) (b : Binds K fd ["world", "exchanges"] []) (h_crossed : Has P w K mg base 1 "_law_crossed" ["crossings", "over", "under"] m_crossed) (z_list : mg "list" = none) (hW : P = Wd.P ∧ w = Wd.w) :
    Has P w K mg base 2 "_law_moved" ["world", "exchanges"] m_moved :=
  has_mk F g b sc_moved (by decide) fun cdv A outer sh H E hr =>
  (jss_cons (js_set (i := 2) sc_moved.nd rfl (je_pure (jf_list (by rfl) z_list (ja_cons (je_at (je_var 0) je_int) ja_nil))))
  (jss_cons (js_for PassesOwn.never rfl (ji_list (je_var 1)) (jg_name (i := 3) sc_moved.nd rfl)
  (jss_cons (js_set (i := 4) sc_moved.nd rfl (je_at (je_var 2) (je_at (je_var 3) je_int)))
  (jss_cons (js_set (i := 5) sc_moved.nd rfl (je_at (je_var 2) (je_add (je_at (je_var 3) je_int) je_int)))
  (jss_cons (js_if (jt_eq hr.units (je_at (je_var 3) je_int) je_str)
  (jss_one (js_expr (je_def h_crossed hr (ja_cons (je_at (je_var 0) je_int) (ja_cons (je_var 4) (ja_cons (je_var 5) ja_nil))))))
  (jss_one (js_expr (je_def h_crossed hr (ja_cons (je_at (je_var 0) je_int) (ja_cons (je_var 5) (ja_cons (je_var 4) ja_nil)))))))
  (jss_one (js_set (i := 2) sc_moved.nd rfl (je_pure (jf_cat (je_pure (jf_cat (je_pure (jf_slice (je_var 2) jo_none (jo_some (je_at (je_var 3) je_int)))) (je_pure (jf_lst (ja_cons (je_var 5) (ja_cons (je_var 4) ja_nil)))))) (je_pure (jf_slice (je_var 2) (jo_some (je_add (je_at (je_var 3) je_int) je_int)) jo_none))))))))))
  (jss_one (js_ret (je_pure (jf_cat (je_pure (jf_lst (ja_cons (je_var 2) ja_nil))) (je_pure (jf_slice (je_var 0) (jo_some je_int) jo_none))))))))
theorem has_done (F : Fun K "_law_done" "_law_done" S_done f fd) (g : mg "_law_done" = some (.ref f)) (b : Binds K fd ["chart"] []) (h_worked : Has P w K mg base 2 "_law_worked" ["world", "direction", "commands"] m_worked) (h_moved : Has P w K mg base 2 "_law_moved" ["world", "exchanges"] m_moved) (hW : P = Wd.P ∧ w = Wd.w) :
    Has P w K mg base 3 "_law_done" ["chart"] m_done :=
  has_mk F g b sc_done (by decide) fun cdv A outer sh H E hr =>
  (jss_cons (js_set (i := 1) sc_done.nd rfl (je_pure (jf_lst (ja_cons (je_pure (jf_lst ja_nil)) (ja_cons (je_dictN hW) (ja_cons (je_dictN hW) (ja_cons (je_cell (jf_lst ja_nil)) (ja_cons je_dictK ja_nil))))))))
  (jss_cons (js_for PassesOwn.never rfl (ji_list (je_var 0)) (jg_name (i := 2) sc_done.nd rfl)
  (jss_one (js_if (jt_eq hr.units (je_at (je_var 2) je_int) je_str)
  (jss_one (js_set (i := 1) sc_done.nd rfl (je_def h_worked hr (ja_cons (je_var 1) (ja_cons (je_at (je_var 2) je_int) (ja_cons (je_at (je_var 2) je_int) ja_nil))))))
  (jss_one (js_set (i := 1) sc_done.nd rfl (je_def h_moved hr (ja_cons (je_var 1) (ja_cons (je_at (je_var 2) je_int) ja_nil))))))))
  (jss_one (js_ret (je_var 1)))))
theorem has_record (F : Fun K "_law_record" "_law_record" S_record f fd) (g : mg "_law_record" = some (.ref f)) (b : Binds K fd ["loops", "crossings", "resting", "dropped"] []) (z_sorted : mg "sorted" = none) (hW : P = Wd.P ∧ w = Wd.w) :
    Has P w K mg base 1 "_law_record" ["loops", "crossings", "resting", "dropped"] m_record :=
  has_mk F g b sc_record (by decide) fun cdv A outer sh H E hr =>
  (jss_cons (js_setLc (own := [("name", 5)]) (i := 4) (f := dPure) (fun d σ H Q h => pure_read h) rfl sc_record.nd rfl rfl (sw_true rfl rfl rfl (by decide +kernel)) (ji_list (je_pure (jf_sortedN hW rfl hr.units (by rfl) z_sorted (ja_cons (je_var 0) ja_nil)))) (blkOk_by (own := [("name", 5)]) (N := N_record) (sc := defScope S_record) (by decide +kernel)) (fun _ _ _ _ _ => (jg_name (i := 5) sc_record.nd rfl)) (fun _ _ _ _ _ => jts_nil) (fun _ _ _ _ _ => (je_tup (ja_cons (je_var 5) (ja_cons (je_at (je_atN hW hr.units (je_var 0) (je_var 5)) je_int) (ja_cons (je_at (je_atN hW hr.units (je_var 0) (je_var 5)) je_int) (ja_cons (je_at (je_atN hW hr.units (je_var 0) (je_var 5)) je_int) ja_nil)))))))
  (jss_cons (js_setLc (own := [("pair", 7)]) (i := 6) (f := dPure) (fun d σ H Q h => pure_read h) rfl sc_record.nd rfl rfl (sw_true rfl rfl rfl (by decide +kernel)) (ji_list (je_pure (jf_sortedN hW rfl hr.units (by rfl) z_sorted (ja_cons (je_var 1) ja_nil)))) (blkOk_by (own := [("pair", 7)]) (N := N_record) (sc := defScope S_record) (by decide +kernel)) (fun _ _ _ _ _ => (jg_name (i := 7) sc_record.nd rfl)) (fun _ _ _ _ _ => jts_nil) (fun _ _ _ _ _ => (je_tup (ja_cons (je_at (je_var 7) je_int) (ja_cons (je_at (je_var 7) je_int) (ja_cons (je_fz (je_atN hW hr.units (je_var 1) (je_var 7))) ja_nil))))))
  (jss_one (js_ret (je_tup (ja_cons (je_var 4) (ja_cons (je_var 6) (ja_cons (je_var 2) (ja_cons (je_pure (jf_sortedD hr.units (by rfl) z_sorted (ja_cons (je_var 3) ja_nil))) ja_nil)))))))))
theorem has_fabric (F : Fun K "_law_fabric" "_law_fabric" S_fabric f fd) (g : mg "_law_fabric" = some (.ref f)) (b : Binds K fd ["chart"] []) (h_done : Has P w K mg base 3 "_law_done" ["chart"] m_done) (h_record : Has P w K mg base 1 "_law_record" ["loops", "crossings", "resting", "dropped"] m_record) (hW : P = Wd.P ∧ w = Wd.w) :
    Has P w K mg base 4 "_law_fabric" ["chart"] m_fabric :=
  has_mk F g b sc_fabric (by decide) fun cdv A outer sh H E hr =>
  (jss_cons (js_set (i := 1) sc_fabric.nd rfl (je_def h_done hr (ja_cons (je_var 0) ja_nil)))
  (jss_one (js_ret (je_def h_record hr (ja_cons (je_at (je_var 1) je_int) (ja_cons (je_at (je_var 1) je_int) (ja_cons (je_pure (jf_lc (own := [("name", 2)]) rfl sc_fabric.nd (ji_list (je_at (je_var 1) je_int)) (blkOk_by (own := [("name", 2)]) (N := N_fabric) (sc := defScope S_fabric) (by decide +kernel)) (fun _ _ _ _ _ => (jg_name (i := 2) sc_fabric.nd rfl)) (fun _ _ _ _ _ => jts_nil) (fun _ _ _ _ _ => (je_pure (jf_lst (ja_cons (je_var 2) ja_nil)))))) (ja_cons (je_at (je_var 1) je_int) ja_nil))))))))
theorem has_child (F : Fun K "_law_child" "_law_child" S_child f fd) (g : mg "_law_child" = some (.ref f)) (b : Binds K fd ["fabric", "name"] [])  (hW : P = Wd.P ∧ w = Wd.w) :
    Has P w K mg base 1 "_law_child" ["fabric", "name"] m_child :=
  has_mk F g b sc_child (by decide) fun cdv A outer sh H E hr =>
  (jss_cons (js_for PassesOwn.never rfl (ji_list (je_at (je_var 0) je_int)) (jg_name (i := 2) sc_child.nd rfl)
  (jss_one (js_if (jt_inD hr (je_var 1) (je_at (je_var 2) je_int))
  (jss_one (js_ret (je_at (je_var 2) je_int)))
  jss_nil)))
  (jss_one (js_ret je_non)))
theorem has_is_long_right (F : Fun K "_law_is_long_right" "_law_is_long_right" S_is_long_right f fd) (g : mg "_law_is_long_right" = some (.ref f)) (b : Binds K fd ["state"] []) (h_undone : Has P w K mg base 1 "undone" ["fabric"] m_undone) (h_take : Has P w K mg base 1 "_law_take" ["state", "many"] m_take) (h_fabric : Has P w K mg base 4 "_law_fabric" ["chart"] m_fabric) (z_range : mg "range" = none) (z_repr : mg "repr" = none) (hW : P = Wd.P ∧ w = Wd.w) :
    HasG P w K mg base 5 "_law_is_long_right" ["state"] m_is_long_right :=
  hasG_mk F g b sc_is_long_right (by decide) fun cdv A outer sh H gd hr =>
  (jss_cons (js_set (i := 1) sc_is_long_right.nd rfl (je_add je_int (je_def h_take hr (ja_cons (je_var 0) (ja_cons je_int ja_nil)))))
  (jss_cons (js_set (i := 2) sc_is_long_right.nd rfl (je_pure (jf_lst (ja_cons (je_tup (ja_cons je_str (ja_cons je_str ja_nil))) (ja_cons (je_tup (ja_cons je_str ja_nil)) ja_nil)))))
  (jss_cons (js_set (i := 3) sc_is_long_right.nd rfl (je_pure (jf_cat (je_pure (jf_lst (ja_cons (je_tup (ja_cons je_str (ja_cons je_int ja_nil))) ja_nil))) (je_pure (jf_lc (own := [("n", 4)]) rfl sc_is_long_right.nd (ji_range2 (by rfl) z_range (ja_cons je_int (ja_cons (je_add (je_var 1) je_int) ja_nil))) (blkOk_by (own := [("n", 4)]) (N := N_is_long_right) (sc := defScope S_is_long_right) (by decide +kernel)) (fun _ _ _ _ _ => (jg_name (i := 4) sc_is_long_right.nd rfl)) (fun _ _ _ _ _ => jts_nil) (fun _ _ _ _ _ => (je_tup (ja_cons je_str (ja_cons (je_var 4) ja_nil)))))))))
  (jss_cons (js_if (jt_eq hr.units (je_def h_take hr (ja_cons (je_var 0) (ja_cons je_int ja_nil))) je_int)
  (jss_cons (js_set (i := 2) sc_is_long_right.nd rfl (je_pure (jf_lst (ja_cons (je_tup (ja_cons je_str (ja_cons je_int (ja_cons (je_at (je_pure (jf_lst (ja_cons je_str (ja_cons je_str ja_nil)))) (je_def h_take hr (ja_cons (je_var 0) (ja_cons je_int ja_nil)))) (ja_cons je_str (ja_cons je_str ja_nil)))))) (ja_cons (je_tup (ja_cons je_str (ja_cons je_str ja_nil))) ja_nil)))))
  (jss_one (js_setLc (own := [("n", 4)]) (i := 3) (f := dPure) (fun d σ H Q h => pure_read h) rfl sc_is_long_right.nd rfl rfl (sw_true rfl rfl rfl (by decide +kernel)) (ji_range1 (by rfl) z_range (ja_cons (je_add (je_mul je_int (je_var 1)) je_int) ja_nil)) (blkOk_by (own := [("n", 4)]) (N := N_is_long_right) (sc := defScope S_is_long_right) (by decide +kernel)) (fun _ _ _ _ _ => (jg_name (i := 4) sc_is_long_right.nd rfl)) (fun _ _ _ _ _ => jts_nil) (fun _ _ _ _ _ => (je_tup (ja_cons je_str (ja_cons (je_var 4) ja_nil)))))))
  jss_nil)
  (jss_cons (js_set (i := 5) sc_is_long_right.nd rfl (je_pure (jf_cat (je_pure (jf_lst (ja_cons (je_tup (ja_cons je_str (ja_cons je_str (ja_cons (je_pure (jf_lst (ja_cons (je_tup (ja_cons je_str (ja_cons je_str ja_nil))) (ja_cons (je_tup (ja_cons je_str (ja_cons je_str ja_nil))) ja_nil)))) ja_nil)))) ja_nil))) (je_pure (jf_rep (je_pure (jf_lst (ja_cons (je_tup (ja_cons je_str (ja_cons je_str (ja_cons (je_var 2) ja_nil)))) ja_nil))) (je_var 1))))))
  (jss_cons (js_set (i := 6) sc_is_long_right.nd rfl (je_def h_fabric hr (ja_cons (je_pure (jf_cat (je_var 5) (je_pure (jf_lst (ja_cons (je_tup (ja_cons je_str (ja_cons je_str (ja_cons (je_pure (jf_lst (ja_cons (je_tup (ja_cons je_str ja_nil)) (ja_cons (je_tup (ja_cons je_str ja_nil)) ja_nil)))) ja_nil)))) ja_nil))))) ja_nil)))
  (jss_cons (js_set (i := 7) sc_is_long_right.nd rfl (je_repr gd hr.units (by rfl) z_repr (ja_cons (je_var 6) ja_nil)))
  (jss_one (js_ret (je_and (je_eq hr.units (je_repr gd hr.units (by rfl) z_repr (ja_cons (je_def h_undone hr (ja_cons (je_var 6) ja_nil)) ja_nil)) (je_repr gd hr.units (by rfl) z_repr (ja_cons (je_var 3) ja_nil))) (je_one (je_eq hr.units (je_repr gd hr.units (by rfl) z_repr (ja_cons (je_var 6) ja_nil)) (je_var 7)))))))))))))
theorem run_law (F : Fun K "law" "law" S_law f fd) (h_undone : Has P w K mg base 1 "undone" ["fabric"] m_undone) (h_state : Has P w K mg base 1 "_law_state" ["script"] m_state) (h_take : Has P w K mg base 1 "_law_take" ["state", "many"] m_take) (h_chart : Has P w K mg base 5 "_law_chart" ["state", "most", "lines"] m_chart) (h_done : Has P w K mg base 3 "_law_done" ["chart"] m_done) (h_fabric : Has P w K mg base 4 "_law_fabric" ["chart"] m_fabric) (h_child : Has P w K mg base 1 "_law_child" ["fabric", "name"] m_child) (h_is_long_right : HasG P w K mg base 5 "_law_is_long_right" ["state"] m_is_long_right) (z_len : mg "len" = none) (z_range : mg "range" = none) (z_repr : mg "repr" = none) (hW : P = Wd.P ∧ w = Wd.w) :
    RunAt callerA P w K mg base f fd ["script"] (spM K mg m_law) :=
  fn_at (k := 5) F sc_law (by decide) ⟨rfl, by decide, by decide⟩ fun cdv outer sh H hr =>
  (jss_cons (js_set (i := 1) sc_law.nd rfl (je_def h_state hr (ja_cons (je_var 0) ja_nil)))
  (jss_cons (js_if (jt_w (jw_and (jt_eq hr.units (je_def h_take hr (ja_cons (je_var 1) (ja_cons je_int ja_nil))) je_int) (jw_and1 (jt_not (jt_tru (je_defG h_is_long_right (fun _ _ z => dBody_len z) hr rfl (ja_cons (je_var 1) ja_nil)))))))
  (jss_one (js_ret je_bl))
  jss_nil)
  (jss_cons (js_set (i := 2) sc_law.nd rfl (je_def h_chart hr (ja_cons (je_var 1) (ja_cons je_int (ja_cons je_int ja_nil)))))
  (jss_cons (js_if (jt_eq hr.units (je_def h_take hr (ja_cons (je_var 1) (ja_cons je_int ja_nil))) je_int)
  (jss_one (js_expr (je_append (je_var 2) (ja_cons (je_tup (ja_cons je_str (ja_cons je_str (ja_cons (je_pure (jf_lc (own := [("name", 3)]) rfl sc_law.nd (ji_list (je_at (je_def h_done hr (ja_cons (je_var 2) ja_nil)) je_int)) (blkOk_by (own := [("name", 3)]) (N := N_law) (sc := defScope S_law) (by decide +kernel)) (fun _ _ _ _ _ => (jg_name (i := 3) sc_law.nd rfl)) (fun _ _ _ _ _ => jts_nil) (fun _ _ _ _ _ => (je_at (je_pure (jf_lst (ja_cons (je_tup (ja_cons je_str ja_nil)) (ja_cons (je_tup (ja_cons je_str ja_nil)) ja_nil)))) (je_def h_take hr (ja_cons (je_var 1) (ja_cons je_int ja_nil))))))) ja_nil)))) ja_nil))))
  jss_nil)
  (jss_cons (js_set (i := 4) sc_law.nd rfl (je_def h_fabric hr (ja_cons (je_var 2) ja_nil)))
  (jss_cons (js_set (i := 5) sc_law.nd rfl (je_cell (jf_lst ja_nil)))
  (jss_cons (js_for PassesOwn.never rfl (ji_list (je_at (je_var 4) je_int)) (jg_name (i := 6) sc_law.nd rfl)
  (jss_cons (js_set (i := 3) sc_law.nd rfl (je_at (je_var 6) je_int))
  (jss_cons (js_set (i := 7) sc_law.nd rfl (je_var 3))
  (jss_cons (js_for PassesOwn.never rfl (ji_range1 (by rfl) z_range (ja_cons (je_len (by rfl) z_len (ja_cons (je_at (je_var 4) je_int) ja_nil)) ja_nil)) (jg_name (i := 8) sc_law.nd rfl)
  (jss_cons (js_set (i := 3) sc_law.nd rfl (je_def h_child hr (ja_cons (je_var 4) (ja_cons (je_var 7) ja_nil))))
  (jss_cons (js_if (jt_isN (je_var 3) je_non)
  (jss_one js_break)
  jss_nil)
  (jss_one (js_set (i := 7) sc_law.nd rfl (je_var 3))))))
  (jss_one (js_if (jt_inD hr (je_var 7) (je_at (je_var 4) je_int))
  (jss_one (js_expr (je_append (je_var 5) (ja_cons (je_at (je_var 6) je_int) ja_nil))))
  jss_nil))))))
  (jss_cons (js_set (i := 9) sc_law.nd rfl (je_repr rfl hr.units (by rfl) z_repr (ja_cons (je_var 4) ja_nil)))
  (jss_one (js_ret (je_and (je_eq hr.units (je_repr rfl hr.units (by rfl) z_repr (ja_cons (je_def h_undone hr (ja_cons (je_var 4) ja_nil)) ja_nil)) (je_repr rfl hr.units (by rfl) z_repr (ja_cons (je_var 5) ja_nil))) (je_one (je_eq hr.units (je_repr rfl hr.units (by rfl) z_repr (ja_cons (je_var 4) ja_nil)) (je_var 9))))))))))))))
end
end K04


set_option maxRecDepth 100000
set_option maxHeartbeats 4000000
namespace K04
open PySem L2 Evl Sh
variable [Wd]
abbrev fabW (L : List Lp) (X : List Xc) (row dr : List Nm) : W := recW L X (restW row) dr
theorem row0 (l : Lp) (s : Store) : oIx (rowW l) (.int 0) s = .ok (nW l.1) s := ix_at (xs := [nW l.1, .str (sideOf l), .lst ((dep l).map nW), .lst ((plc l).map nW)]) rfl (by decide) rfl
theorem row2 (l : Lp) (s : Store) : oIx (rowW l) (.int 2) s = .ok (.lst ((dep l).map nW)) s := ix_at (xs := [nW l.1, .str (sideOf l), .lst ((dep l).map nW), .lst ((plc l).map nW)]) rfl (by decide) rfl
theorem child_loop {w0 : W} {a : Nm} {st : Store} (ha : nOk a) : ∀ (ls : List Lp) (o2 : Option W), (∀ l ∈ ls, ∀ x ∈ dep l, nOk x) →
    ∃ o2' : Option W, forGo (fun _ => True) (gN 2) (sIf (dB (dOp oInD (dVar 1) (dOp oIx (dVar 2) (dC (.int 2))))) (sRet (dOp oIx (dVar 2) (dC (.int 0)))) sNil) (ls.map rowW) [some w0, some (nW a), o2] st =
      match ls.find? (fun l => decide (a ∈ dep l)) with
      | some l => .rt (nW l.1) st
      | none => .nx [some w0, some (nW a), o2'] st
  | [], o2, h => ⟨o2, forGo_nil True.intro⟩
  | l :: ls, o2, h => by
    have t : dB (dOp oInD (dVar 1) (dOp oIx (dVar 2) (dC (.int 2)))) [some w0, some (nW a), some (rowW l)] st = .ok (decide (a ∈ dep l)) st := rB (rOp (rV rfl) (rOp (rV rfl) rC (row2 l st)) (inD_run ha (h l List.mem_cons_self) st))
    by_cases q : a ∈ dep l
    · refine ⟨o2, ?_⟩
      rw [List.find?_cons, decide_eq_true q, List.map_cons, forGo, if_pos True.intro, show gN 2 (rowW l) [some w0, some (nW a), o2] st = .ok [some w0, some (nW a), some (rowW l)] st from rfl]
      dsimp only
      rw [sIf_t (t.trans (by rw [decide_eq_true q])) (sRet_at (rOp (rV rfl) rC (row0 l st)))]
    · obtain ⟨o, e⟩ := child_loop (w0 := w0) (st := st) ha ls (some (rowW l)) fun x hx => h x (List.mem_cons_of_mem _ hx)
      refine ⟨o, ?_⟩
      rw [List.find?_cons, decide_eq_false q, List.map_cons, forGo_nx (env1 := [some w0, some (nW a), some (rowW l)]) (st1 := st) True.intro rfl (sIf_f (t.trans (by rw [decide_eq_false q])) sNil_at)]
      exact e
def optW : Option Nm → W
  | some b => nW b
  | none => .non
theorem child_run {L : List Lp} {X : List Xc} {row dr : List Nm} {a : Nm} {st : Store} (ha : nOk a) (h : ∀ l ∈ L, ∀ x ∈ dep l, nOk x) : m_child [fabW L X row dr, nW a] st = .ok (optW (chd (rowsR L) a)) st := by
  obtain ⟨o, e⟩ := child_loop (w0 := fabW L X row dr) (st := st) ha (srtL L) none fun l hl => h l ((mem_srt L l).mp hl)
  have x0 : dOp oIx (dVar 0) (dC (.int 0)) [some (fabW L X row dr), some (nW a), none] st = .ok (.lst ((srtL L).map rowW)) st := rOp (rV rfl) rC (ix_at (xs := [.lst ((srtL L).map rowW), .lst ((srtX X).map xrW), restW row, .lst ((srtN dr).map nW)]) rfl (by decide) rfl)
  have c : chd (rowsR L) a = ((srtL L).find? fun l => decide (a ∈ dep l)).map (·.1) := by
    unfold chd
    rw [List.find?_map, Option.map_map]
    rfl
  rw [c]
  cases q : (srtL L).find? fun l => decide (a ∈ dep l) with
  | some l =>
    rw [q] at e
    exact body_rt rfl (sSeq_rt (rFor (rList x0) e))
  | none =>
    rw [q] at e
    exact body_rt rfl (sSeq_at (rFor (rList x0) e) (sRet_at rC))
end K04


set_option maxRecDepth 100000
set_option maxHeartbeats 4000000
namespace K04
open PySem L2 Evl Sh
variable [Wd]
noncomputable abbrev inB : S := (sSeq (sSet 3 (dCall m_child (dCons (dVar 4) (dCons (dVar 7) dNil))))
  (sSeq (sIf (dB (dIsN (dVar 3) (dC .non)))
  sBreak
  sNil)
  (sSet 7 (dVar 3))))
noncomputable abbrev outB : S := (sSeq (sSet 3 (dOp oIx (dVar 6) (dC (.int 0))))
  (sSeq (sSet 7 (dVar 3))
  (sSeq (sFor (iR1 (dCons (dCallB cLen (dCons (dOp oIx (dVar 4) (dC (.int 0))) dNil)) dNil)) (gN 8)
  inB)
  (sIf (dB (dOp oInD (dVar 7) (dOp oIx (dVar 4) (dC (.int 3)))))
  (sDrop (dBM tyL mAppend (dVar 5) (dCons (dOp oIx (dVar 6) (dC (.int 0))) dNil)))
  sNil))))
abbrev lE (s0 s1 s2 o3 : Option W) (fab : W) (d : Nat) (o6 o7 o8 : Option W) : Sh.Env := [s0, s1, s2, o3, some fab, some (.cell d), o6, o7, o8, none]
theorem isN_non (st : Store) : oIsN .non .non st = .ok (.bl true) st := rfl
theorem isN_nW (n : Nm) (st : Store) : oIsN (nW n) .non st = .ok (.bl false) st := rfl
theorem forGo_bk {ok : Store → Prop} {g : T} {body : S} {w : W} {ws : List W} {env env1 env2 : Sh.Env} {st st1 st2 : Store} (k : ok st) (h : g w env st = .ok env1 st1) (hb : body env1 st1 = .bk env2 st2) : forGo ok g body (w :: ws) env st = .nx env2 st2 := by
  rw [forGo, if_pos k, h]
  dsimp only
  rw [hb]
theorem sSeq_bk {s t : S} {env env1 : Sh.Env} {st st1 : Store} (h : s env st = .bk env1 st1) : sSeq s t env st = .bk env1 st1 := by
  unfold sSeq
  rw [h]
  rfl
section
variable {L : List Lp} {X : List Xc} {row dr : List Nm} {s0 s1 s2 : Option W} {d : Nat}
theorem in_loop {o6 : Option W} {st : Store} (hL : ∀ l ∈ L, nOk l.1 ∧ ∀ x ∈ dep l, nOk x) : ∀ (n : Nat) (k : Int) (a : Nm) (o3 o8 : Option W), nOk a →
    ∃ (o3' o8' : Option W), forGo (fun _ => True) (gN 8) inB (rngW k n) (lE s0 s1 s2 o3 (fabW L X row dr) d o6 (some (nW a)) o8) st = .nx (lE s0 s1 s2 o3' (fabW L X row dr) d o6 (some (nW (lastN (rowsR L) n a))) o8') st
  | 0, k, a, o3, o8, ha => ⟨o3, o8, forGo_nil True.intro⟩
  | n + 1, k, a, o3, o8, ha => by
    have c := child_run (L := L) (X := X) (row := row) (dr := dr) (st := st) ha fun l hl => (hL l hl).2
    have s3 : sSet 3 (dCall m_child (dCons (dVar 4) (dCons (dVar 7) dNil))) (lE s0 s1 s2 o3 (fabW L X row dr) d o6 (some (nW a)) (some (.int k))) st = .nx (lE s0 s1 s2 (some (optW (chd (rowsR L) a))) (fabW L X row dr) d o6 (some (nW a)) (some (.int k))) st := sSet_at (rCall (rCons (rV rfl) (rCons (rV rfl) rNil)) c)
    rw [rngW_succ]
    cases q : chd (rowsR L) a with
    | none =>
      rw [q] at s3
      refine ⟨some .non, some (.int k), ?_⟩
      rw [show lastN (rowsR L) (n + 1) a = a by unfold lastN; rw [q]]
      exact forGo_bk (env1 := lE s0 s1 s2 o3 (fabW L X row dr) d o6 (some (nW a)) (some (.int k))) (st1 := st) True.intro rfl ((sSeq_at s3 (sSeq_bk (sIf_t (rB (rOp (rV rfl) rC (isN_non st))) rfl))))
    | some b =>
      rw [q] at s3
      obtain ⟨r, hr, e, _⟩ := chd_some q
      obtain ⟨l, hl, e2⟩ := List.mem_map.mp hr
      have nb : nOk b := by rw [← e, ← e2]; exact (hL l ((mem_srt L l).mp hl)).1
      obtain ⟨p3, p8, e3⟩ := in_loop (o6 := o6) (st := st) hL n (k + 1) b (some (nW b)) (some (.int k)) nb
      refine ⟨p3, p8, ?_⟩
      rw [show lastN (rowsR L) (n + 1) a = lastN (rowsR L) n b by rw [lastN, q]]
      rw [forGo_nx (ok := fun _ => True) (env1 := lE s0 s1 s2 o3 (fabW L X row dr) d o6 (some (nW a)) (some (.int k))) (st1 := st) (env2 := lE s0 s1 s2 (some (nW b)) (fabW L X row dr) d o6 (some (nW b)) (some (.int k))) (st2 := st) True.intro rfl (sSeq_at s3 (sSeq_at (sIf_f (rB (rOp (rV rfl) rC (isN_nW b st))) sNil_at) (sSet_at (rV rfl))))]
      exact e3
omit [Wd] in
theorem last_ok (hL : ∀ l ∈ L, nOk l.1 ∧ ∀ x ∈ dep l, nOk x) : ∀ (n : Nat) (a : Nm), nOk a → nOk (lastN (rowsR L) n a)
  | 0, a, h => h
  | n + 1, a, h => by
    unfold lastN
    cases q : chd (rowsR L) a with
    | none => exact h
    | some b =>
      obtain ⟨r, hr, e, _⟩ := chd_some q
      obtain ⟨l, hl, e2⟩ := List.mem_map.mp hr
      exact last_ok hL n b (by rw [← e, ← e2]; exact (hL l ((mem_srt L l).mp hl)).1)
theorem out_loop (hL : ∀ l ∈ L, nOk l.1 ∧ ∀ x ∈ dep l, nOk x) (hd : ∀ x ∈ dr, nOk x) (z : L.length ≤ 200000) : ∀ (ls : List Lp) (acc : List Nm) (st : Store) (o3 o6 o7 o8 : Option W), (∀ l ∈ ls, l ∈ L) → lcell st d = some (acc.map nW) → acc.length + ls.length ≤ 200000 →
    ∃ (o3' o6' o7' o8' : Option W) (st' : Store), forGo (fun _ => True) (gN 6) outB (ls.map rowW) (lE s0 s1 s2 o3 (fabW L X row dr) d o6 o7 o8) st = .nx (lE s0 s1 s2 o3' (fabW L X row dr) d o6' o7' o8') st' ∧
      lcell st' d = some ((acc ++ (ls.map (·.1)).filter fun a => decide (lastN (rowsR L) L.length a ∈ srtN dr)).map nW) ∧ st'.length = st.length ∧ ∀ k, k ≠ d → st'[k]? = st[k]?
  | [], acc, st, o3, o6, o7, o8, h, hc, zz => ⟨o3, o6, o7, o8, st, forGo_nil True.intro, by rw [List.map_nil, List.filter_nil, List.append_nil]; exact hc, rfl, fun _ _ => rfl⟩
  | l :: ls, acc, st, o3, o6, o7, o8, h, hc, zz => by
    rw [List.length_cons] at zz
    have lL := h l List.mem_cons_self
    have nl := (hL l lL).1
    obtain ⟨p3, p8, e1⟩ := in_loop (X := X) (row := row) (dr := dr) (s0 := s0) (s1 := s1) (s2 := s2) (d := d) (o6 := some (rowW l)) (st := st) hL L.length 0 l.1 (some (nW l.1)) o8 nl
    have ln : ∀ (o3 o6 o7 o8 : Option W), iR1 (dCons (dCallB cLen (dCons (dOp oIx (dVar 4) (dC (.int 0))) dNil)) dNil) (lE s0 s1 s2 o3 (fabW L X row dr) d o6 o7 o8) st = .ok ⟨rngW 0 L.length, fun _ => True⟩ st := fun o3 o6 o7 o8 =>
      rR1 (n := L.length) (rCons (rCallB (rCons (w := .lst ((srtL L).map rowW)) (rOp (x := fabW L X row dr) (rV rfl) rC (ix_at (xs := [.lst ((srtL L).map rowW), .lst ((srtX X).map xrW), restW row, .lst ((srtN dr).map nW)]) rfl (by decide) rfl)) rNil) (by rw [cLen_at (w := .lst ((srtL L).map rowW)) rfl, List.length_map, show (srtL L).length = L.length from List.length_mergeSort L])) rNil) (sm_nat (by omega))
    have nlast : nOk (lastN (rowsR L) L.length l.1) := last_ok hL L.length l.1 nl
    have nsd : ∀ x ∈ srtN dr, nOk x := fun x hx => hd x ((List.mergeSort_perm _ _).mem_iff.mp hx)
    have t : dB (dOp oInD (dVar 7) (dOp oIx (dVar 4) (dC (.int 3)))) (lE s0 s1 s2 p3 (fabW L X row dr) d (some (rowW l)) (some (nW (lastN (rowsR L) L.length l.1))) p8) st = .ok (decide (lastN (rowsR L) L.length l.1 ∈ srtN dr)) st :=
      rB (rOp (rV rfl) (rOp (x := fabW L X row dr) (rV rfl) rC (ix_at (xs := [.lst ((srtL L).map rowW), .lst ((srtX X).map xrW), restW row, .lst ((srtN dr).map nW)]) rfl (by decide) rfl)) (inD_run nlast nsd st))
    have pre : ∀ o, (sIf (dB (dOp oInD (dVar 7) (dOp oIx (dVar 4) (dC (.int 3))))) (sDrop (dBM tyL mAppend (dVar 5) (dCons (dOp oIx (dVar 6) (dC (.int 0))) dNil))) sNil) (lE s0 s1 s2 p3 (fabW L X row dr) d (some (rowW l)) (some (nW (lastN (rowsR L) L.length l.1))) p8) st = o →
        outB (lE s0 s1 s2 o3 (fabW L X row dr) d (some (rowW l)) o7 o8) st = o := fun o ho =>
      sSeq_at (env1 := lE s0 s1 s2 (some (nW l.1)) (fabW L X row dr) d (some (rowW l)) o7 o8) (st1 := st) (sSet_at (rOp (rV rfl) rC (row0 l st))) (sSeq_at (env1 := lE s0 s1 s2 (some (nW l.1)) (fabW L X row dr) d (some (rowW l)) (some (nW l.1)) o8) (st1 := st) (sSet_at (rV rfl)) (sSeq_at (rFor (ln _ _ _ _) e1) ho))
    by_cases q : lastN (rowsR L) L.length l.1 ∈ srtN dr
    · have body := pre _ (sIf_t (t.trans (by rw [decide_eq_true q])) (sDrop_at (rBM (rV rfl) (tyL_cell hc) (rCons (rOp (rV rfl) rC (row0 l st)) rNil) (app_at hc (by rw [List.length_map]; omega)))))
      obtain ⟨r3, r6, r7, r8, st', e2, c2, l2, f2⟩ := out_loop hL hd z ls (acc ++ [l.1]) (st.set d (.lst (acc.map nW ++ [nW l.1]))) p3 (some (rowW l)) (some (nW (lastN (rowsR L) L.length l.1))) p8 (fun x hx => h x (List.mem_cons_of_mem _ hx)) (by rw [lcell_set (lcell_lt hc), List.map_append]; rfl) (by rw [List.length_append, List.length_singleton]; omega)
      refine ⟨r3, r6, r7, r8, st', ?_, ?_, by rw [l2, List.length_set], fun k hk => by rw [f2 k hk, List.getElem?_set_ne (Ne.symm hk)]⟩
      · rw [List.map_cons, forGo_nx (ok := fun _ => True) (env1 := lE s0 s1 s2 o3 (fabW L X row dr) d (some (rowW l)) o7 o8) (st1 := st) True.intro rfl body]
        exact e2
      · rw [c2, List.map_cons, List.filter_cons, if_pos (decide_eq_true q), List.append_assoc]
        rfl
    · have body := pre _ (sIf_f (t.trans (by rw [decide_eq_false q])) sNil_at)
      obtain ⟨r3, r6, r7, r8, st', e2, c2, l2, f2⟩ := out_loop hL hd z ls acc st p3 (some (rowW l)) (some (nW (lastN (rowsR L) L.length l.1))) p8 (fun x hx => h x (List.mem_cons_of_mem _ hx)) hc (by omega)
      refine ⟨r3, r6, r7, r8, st', ?_, ?_, l2, f2⟩
      · rw [List.map_cons, forGo_nx (ok := fun _ => True) (env1 := lE s0 s1 s2 o3 (fabW L X row dr) d (some (rowW l)) o7 o8) (st1 := st) True.intro rfl body]
        exact e2
      · rw [c2, List.map_cons, List.filter_cons, if_neg (by simpa using q)]
end
end K04


set_option maxRecDepth 100000
set_option maxHeartbeats 4000000
namespace K04
open PySem L2 Evl Sh
variable [Wd]
noncomputable abbrev tailS : S :=
  (sSeq (sSet 4 (dCall m_fabric (dCons (dVar 2) dNil)))
  (sSeq (sSet 5 (dCell (dLst dNil)))
  (sSeq (sFor (iL (dOp oIx (dVar 4) (dC (.int 0)))) (gN 6)
  outB)
  (sSeq (sSet 9 (dCallB cRepr (dCons (dVar 4) dNil)))
  (sRet (dAndV (dEq (dCallB cRepr (dCons (dCall m_undone (dCons (dVar 4) dNil)) dNil)) (dCallB cRepr (dCons (dVar 5) dNil))) (dEq (dCallB cRepr (dCons (dVar 4) dNil)) (dVar 9))))))))
theorem filt_ok {p : Nm → Bool} {xs : List Nm} (h : ∀ x ∈ xs, nOk x) : ∀ x ∈ xs.filter p, nOk x := fun x hx => h x (List.mem_filter.mp hx).1
theorem und_at {L : List Lp} {X : List Xc} {row dr : List Nm} {z : Nat} (F : Fab row L dr X z) (hz : z ≤ 200000) (st : Store) :
    ∃ st', m_undone [fabW L X row dr] st = .ok (.lst ((((srtL L).map (·.1)).filter fun a => decide (lastN (rowsR L) L.length a ∈ srtN dr)).map nW)) st' ∧ st.length ≤ st'.length ∧ ∀ k, k < st.length → st'[k]? = st[k]? := by
  have U := F.und hz
  have U2 : Und ((srtL L).map fun l => (l.1, dep l)) (srtN dr) := by
    have p := List.mergeSort_perm dr (PySem.W.dataLe false dN)
    refine ⟨U.nd, fun a => ?_, fun a ha => ?_, U.z.1, ?_⟩
    · have := U.one a
      rw [List.count_append] at this ⊢
      rw [show (srtN dr).count a = dr.count a from p.count_eq a]
      exact this
    · refine U.sub a ?_
      rcases List.mem_append.mp ha with h | h
      · exact List.mem_append_left _ (p.mem_iff.mp h)
      · exact List.mem_append_right _ h
    · have := U.z.2
      rw [List.length_append] at this ⊢
      rw [show (srtN dr).length = dr.length from List.length_mergeSort dr]
      exact this
  obtain ⟨Fo, st', e, D, l, f⟩ := undone_run (α := Lp) (nm := (·.1)) (dp := dep) (f := rowW) row0 row2 (p1 := .lst ((srtX X).map xrW)) (p2 := restW row) (st := st) U2
  have D' : DF (rowsR L) dr Fo [] := fun a => by
    have := D a
    have p := List.mergeSort_perm dr (PySem.W.dataLe false dN)
    rw [List.count_append (l₁ := srtN dr), show (srtN dr).count a = dr.count a from p.count_eq a, ← List.count_append] at this
    exact this
  refine ⟨st', ?_, l, f⟩
  rw [← undone_due F hz D']
  exact e
theorem tail_run {ls : List Line} {c : Int} {st : Store} {r : Nat} {s0 s1 o3 : Option W} (hr : lcell st r = some (ls.map lW)) (hl : ∀ l ∈ ls, l.ok) (f : FitR 0 ls c) (z : cost ls ≤ 6500) :
    ∃ st', tailS [s0, s1, some (.cell r), o3, none, none, none, none, none, none] st = .rt (.bl true) st' := by
  have rl := lcell_lt hr
  have okk : ∀ st', (∀ n, n < st.length → st'[n]? = st[n]?) → lcell st' r = some (ls.map lW) := fun st' h => by
    unfold lcell at hr ⊢
    rw [h r rl]
    exact hr
  obtain ⟨row, L, dr, X, st1, e1, Fb, _, _, l1, f1⟩ := fabric_run (ok := fun st => lcell st r = some (ls.map lW)) (w0 := .cell r) okk hl f (by omega) fun env st' h0 h => rCl (rV h0) (okk st' h)
  have N := Fb.nms (by omega)
  obtain ⟨x1, x2, x3⟩ := Fb.fit z
  have lz : L.length ≤ 6500 := Nat.le_trans Fb.ll z
  have sl : (srtL L).length = L.length := List.length_mergeSort L
  obtain ⟨p3, p6, p7, p8, st3, e3, d3, l3, f3⟩ := out_loop (L := L) (X := X) (row := row) (dr := dr) (s0 := s0) (s1 := s1) (s2 := some (.cell r)) (d := st1.length) (fun l hl => (N.l l hl).2) N.d (by omega) (srtL L) [] (st1 ++ [.lst []]) o3 none none none (fun l hl => (mem_srt L l).mp hl) lcell_new (by rw [sl]; show 0 + _ ≤ _; omega)
  rw [List.nil_append] at d3
  generalize hdue : (((srtL L).map (·.1)).filter fun a => decide (lastN (rowsR L) L.length a ∈ srtN dr)) = due at d3
  obtain ⟨st4, e4, l4, f4⟩ := und_at Fb (by omega) st3
  rw [hdue] at e4
  have dk : ∀ x ∈ due, nOk x := by
    rw [← hdue]
    refine filt_ok fun x hx => ?_
    obtain ⟨l, hl, e⟩ := List.mem_map.mp hx
    rw [← e]
    exact (N.l l ((mem_srt L l).mp hl)).2.1
  have dl : due.length ≤ 6500 := by
    rw [← hdue]
    refine Nat.le_trans (List.length_filter_le _ _) ?_
    rw [List.length_map, sl]
    exact lz
  have dw := wtDs_map (f := nW) (c := 41) fun x hx => wt_nW (dk x hx)
  have dd := dpDs_map (f := nW) (xs := due) (c := 1) fun n _ => dp_nW n
  have e20 : (2 : Nat) ^ 20 = 1048576 := by decide
  have dw2 : wtDs (due.map nW) ≤ 2 ^ 20 := by rw [e20]; omega
  have rep : ∀ s, cRepr [fabW L X row dr] s = .ok (.str (shownW (fabW L X row dr))) s := fun s => repr_at s x1 x2 x3 rfl
  have rl1 : cRepr [.lst (due.map nW)] st4 = .ok (.str (shownW (.lst (due.map nW)))) st4 := repr_at (w := .lst (due.map nW)) st4 (ok_Ns dk) dw2 (show dpDs (due.map nW) + 1 ≤ 60 by omega) rfl
  have c4 : lcell st4 st1.length = some (due.map nW) := by
    have := d3
    unfold lcell at this ⊢
    rw [f4 st1.length (by rw [l3, List.length_append]; exact Nat.lt_succ_self _)]
    exact this
  have rl2 : cRepr [.cell st1.length] st4 = .ok (.str (shownW (.lst (due.map nW)))) st4 := repr_cell c4 (ok_Ns dk) dw2 (by omega)
  have eqs : ∀ (x : Str) s, oEq (.str x) (.str x) s = .ok (.bl true) s := fun x s => by rw [oEq_str, decide_eq_true rfl]
  refine ⟨st4, ?_⟩
  have t4 : sSet 4 (dCall m_fabric (dCons (dVar 2) dNil)) [s0, s1, some (.cell r), o3, none, none, none, none, none, none] st = .nx [s0, s1, some (.cell r), o3, some (fabW L X row dr), none, none, none, none, none] st1 := sSet_at (rCall (rCons (rV rfl) rNil) e1)
  have t5 : sSet 5 (dCell (dLst dNil)) [s0, s1, some (.cell r), o3, some (fabW L X row dr), none, none, none, none, none] st1 = .nx (lE s0 s1 (some (.cell r)) o3 (fabW L X row dr) st1.length none none none) (st1 ++ [.lst []]) := sSet_at (rCell (rLst rNil two0))
  have x0 : dOp oIx (dVar 4) (dC (.int 0)) (lE s0 s1 (some (.cell r)) o3 (fabW L X row dr) st1.length none none none) (st1 ++ [.lst []]) = .ok (.lst ((srtL L).map rowW)) (st1 ++ [.lst []]) := rOp (x := fabW L X row dr) (rV rfl) rC (ix_at (xs := [.lst ((srtL L).map rowW), .lst ((srtX X).map xrW), restW row, .lst ((srtN dr).map nW)]) rfl (by decide) rfl)
  have t9 : sSet 9 (dCallB cRepr (dCons (dVar 4) dNil)) (lE s0 s1 (some (.cell r)) p3 (fabW L X row dr) st1.length p6 p7 p8) st3 = .nx [s0, s1, some (.cell r), p3, some (fabW L X row dr), some (.cell st1.length), p6, p7, p8, some (.str (shownW (fabW L X row dr)))] st3 := sSet_at (rCallB (rCons (rV rfl) rNil) (rep st3))
  refine sSeq_at t4 (sSeq_at t5 (sSeq_at (rFor (rList x0) e3) (sSeq_at t9 (sRet_at ?_))))
  exact rAndVT (rOp (rCallB (rCons (rCall (rCons (rV rfl) rNil) e4) rNil) rl1) (rCallB (rCons (rV rfl) rNil) rl2) (eqs _ _)) (rOp (rCallB (rCons (rV rfl) rNil) (rep st4)) (rV rfl) (eqs _ _))
end K04


set_option maxRecDepth 100000
set_option maxHeartbeats 4000000
namespace K04
open PySem L2 Evl Sh
variable [Wd]
section
variable {ns : List Int} {s : Nat} {st : Store} {most lines : Int}
/-- the chart as a list that can grow -/
theorem chart_cell (ok : StOk ns st s) (hm : 1 ≤ most) (hm2 : most ≤ 60) (hl : 1 ≤ lines) (hl2 : lines ≤ 60) :
    ∃ (ls : List Line) (c : Int) (r : Nat) (st' : Store), m_chart [.cell s, .int most, .int lines] st = .ok (.cell r) st' ∧ lcell st' r = some (ls.map lW) ∧ r ≠ s ∧ (∀ l ∈ ls, l.ok) ∧ Fits' 0 ls c ∧ (ls.length : Int) ≤ lines ∧ StOk ns st' s ∧ Fr s st st' := by
  have ls0 := ok.lt
  have l1 : (1 : Nat) ≤ sizeLine := line_ge (by decide)
  have l3 : (3 : Nat) ≤ sizeLine := line_ge (by decide)
  let e0 : Sh.Env := [some (.cell s), some (.int most), some (.int lines), none, none, none, none, none, none]
  obtain ⟨v, st1, a1, a2, a3, a4, a5⟩ := tk_run (env := e0) (e := dVar 1) (st := st) rfl (rV rfl) ok (by omega) (by omega)
  obtain ⟨n, hn⟩ : ∃ n : Nat, (n : Int) = v + 1 := ⟨(v + 1).toNat, by omega⟩
  obtain ⟨cs, st2, b1, b2, b3, b4, b5⟩ := tucks_run (te := dTup (dCons (dC (.str "tuck")) (dCons (dCall m_yarn (dCons (dVar 0) dNil)) dNil))) rfl (env := e0) rfl n 0 [] st1 st a4 a5 (by simp; omega) (fun c hc => by cases hc)
  rw [List.length_nil, Nat.zero_add] at b3
  obtain ⟨z1, z2⟩ := tks_zero b2
  generalize hl0 : Line.work "right" cs = l0
  have f0 : Fits' 0 [l0] (n : Int) := by
    have q : l0.fits 0 (n : Int) := by rw [← hl0]; exact ⟨z1, by rw [z2, b3]⟩
    exact (Fits'.nil 0).snoc q
  have k0 : l0.ok := by rw [← hl0]; exact ⟨.inr rfl, fun c hc => (b2 c hc).1, by omega⟩
  have lw : lW l0 = .tup [.str "work", .str "right", .lst (cs.map cW)] := by rw [← hl0]; rfl
  have hr : lcell (st2 ++ [.lst [lW l0]]) st2.length = some ([l0].map lW) := lcell_new
  have fr2 : Fr s st (st2 ++ [.lst [lW l0]]) := b5.trans Fr.app
  have ls2 := b4.lt
  obtain ⟨u, st3, c1, c2, c3, c4, c5⟩ := tk_run (env := hEnv s st2.length most lines none (n : Int) none none none) (e := dVar 2) (st := st2 ++ [.lst [lW l0]]) rfl (rV rfl) b4.app (by omega) (by omega)
  obtain ⟨k, rfl⟩ : ∃ k : Nat, u = (k : Int) := ⟨u.toNat, by omega⟩
  have hr3 : lcell st3 st2.length = some ([l0].map lW) := by rw [c5.cell (by omega) (by simp), hr]
  obtain ⟨ls, c', g4, g6, g7, g8, st4, d1, d2, d3, d4, d5, d6, d7, d8, d9⟩ := lines_loop (most := most) (lines := lines) k 0 [l0] (n : Int) none none none none st3 st c4 hr3 (by omega) (by omega) (by omega) (by omega) (by simp; omega) (fr2.trans c5) b5.len (fun l hl => by rw [List.mem_singleton.mp hl]; exact k0) f0
  rw [List.length_singleton] at d5
  have ln : ∀ st, cLen [.lst (cs.map cW)] st = .ok (.int (n : Int)) st := fun st => by rw [cLen_at (w := .lst (cs.map cW)) rfl, List.length_map, b3]
  refine ⟨ls, c', st2.length, st4, body_rt rfl ?_, d2, by omega, d3, d4, by omega, d6, d7⟩
  have e3 : sSet 3 (dCell (dLst (dCons (dTup (dCons (dC (.str "work")) (dCons (dC (.str "right")) (dCons (dPure (dLc (iR1 (dCons (dAdd (dCall m_take (dCons (dVar 0) (dCons (dVar 1) dNil))) (dC (.int 1))) dNil)) (gN 4) tYesW (dTup (dCons (dC (.str "tuck")) (dCons (dCall m_yarn (dCons (dVar 0) dNil)) dNil))) [4])) dNil)))) dNil)))
      e0 st = .nx [some (.cell s), some (.int most), some (.int lines), some (.cell st2.length), none, none, none, none, none] (st2 ++ [.lst [lW l0]]) := by
    rw [lw]
    exact sSet_at (rCell (rLst (rCons (rTup (rCons rC (rCons rC (rCons (rPure (rLc (rR1 (n := n) (rCons (rOp (x := .int v) (y := .int 1) a1 rC (by rw [hn]; rfl)) rNil) (sm_nat (by omega))) b1)) rNil))) l3) rNil) l1))
  have i0 : oIx (.cell st2.length) (.int 0) (st2 ++ [.lst [lW l0]]) = .ok (lW l0) (st2 ++ [.lst [lW l0]]) := ix_at (w := .cell st2.length) hr (by decide) rfl
  have i2 : oIx (lW l0) (.int 2) (st2 ++ [.lst [lW l0]]) = .ok (.lst (cs.map cW)) (st2 ++ [.lst [lW l0]]) := by
    generalize st2 ++ [C.lst [lW l0]] = sx
    rw [lw]
    exact ix_at rfl (by decide) rfl
  have e5 : sSet 5 (dCallB cLen (dCons (dOp oIx (dOp oIx (dVar 3) (dC (.int 0))) (dC (.int 2))) dNil)) [some (.cell s), some (.int most), some (.int lines), some (.cell st2.length), none, none, none, none, none] (st2 ++ [.lst [lW l0]]) =
      .nx (hEnv s st2.length most lines none (n : Int) none none none) (st2 ++ [.lst [lW l0]]) := sSet_at (rCallB (rCons (rOp (rOp (rV rfl) rC i0) rC i2) rNil) (ln _))
  unfold b_chart
  exact sSeq_at e3 (sSeq_at e5 (sSeq_at (rFor (rR1 (n := k) (rCons c1 rNil) (sm_nat (by omega))) d1) (sRet_at (rV rfl))))
end
/-! the row that goes -/
theorem tk_at {ns : List Int} {s : Nat} {st : Store} {env : Sh.Env} {i : Nat} {k : Int} (h0 : env[i]? = some (some (.cell s))) (h : StOk ns st s) (hk : 0 < k) (hk2 : k < 1073741824) :
    ∃ v st', dCall m_take (dCons (dVar i) (dCons (dC (.int k)) dNil)) env st = .ok (.int v) st' ∧ 0 ≤ v ∧ v < k ∧ StOk ns st' s ∧ Fr s st st' := by
  obtain ⟨v, st', a, b⟩ := take_fr h hk hk2
  exact ⟨v, st', rCall (rCons (rV h0) (rCons rC rNil)) a, b⟩
noncomputable abbrev dpE : Sh.Env → M W := dOp oIx (dPure (dLst (dCons (dTup (dCons (dC (.str "drop")) dNil)) (dCons (dTup (dCons (dC (.str "pass")) dNil)) dNil)))) (dCall m_take (dCons (dVar 1) (dCons (dC (.int 2)) dNil)))
theorem dp_run {ns : List Int} {s : Nat} {st : Store} {env : Sh.Env} (h0 : env[1]? = some (some (.cell s))) (h : StOk ns st s) :
    ∃ (k : Str) (st' : Store), dpE env st = .ok (cW (.one k)) st' ∧ (k = "pass" ∨ k = "drop") ∧ StOk ns st' s ∧ Fr s st st' := by
  obtain ⟨v, st', a, b, c, d, e⟩ := tk_at (k := 2) h0 h (by decide) (by decide)
  have two : dPure (dLst (dCons (dTup (dCons (dC (.str "drop")) dNil)) (dCons (dTup (dCons (dC (.str "pass")) dNil)) dNil))) env st = .ok (.lst [cW (.one "drop"), cW (.one "pass")]) st := rPure (rLst (rCons (rTup (rCons rC rNil) (line_ge (show 1 ≤ 1024 by decide))) (rCons (rTup (rCons rC rNil) (line_ge (show 1 ≤ 1024 by decide))) rNil)) (line_ge (show 2 ≤ 1024 by decide)))
  by_cases q : v = 0
  · subst q
    exact ⟨"drop", st', rOp two a (ix_at rfl (by decide) rfl), .inr rfl, d, e⟩
  · have q : v = 1 := by omega
    subst q
    exact ⟨"pass", st', rOp two a (ix_at rfl (by decide) rfl), .inl rfl, d, e⟩
theorem go_loop {ns : List Int} {s : Nat} {env : Sh.Env} (h0 : env[1]? = some (some (.cell s))) : ∀ (row : List Nm) (acc : List Cmd) (st st0 : Store), StOk ns st s → Fr s st0 st → acc.length + row.length ≤ 1000 → (∀ c ∈ acc, ∃ k, c = .one k ∧ (k = "pass" ∨ k = "drop")) →
    ∃ (cs : List Cmd) (st' : Store), lcGo (fun _ => True) (gN 3) tYesW dpE env (row.map nW) (acc.map cW) st = .ok (cs.map cW) st' ∧ cs.length = acc.length + row.length ∧ (∀ c ∈ cs, ∃ k, c = .one k ∧ (k = "pass" ∨ k = "drop")) ∧ StOk ns st' s ∧ Fr s st0 st'
  | [], acc, st, st0, ok, f, z, h => ⟨acc, st, by rw [List.map_nil, lcGo, if_pos True.intro], rfl, h, ok, f⟩
  | n :: row, acc, st, st0, ok, f, z, h => by
    rw [List.length_cons] at z
    have h1 : (env.set 3 (some (nW n)))[1]? = some (some (.cell s)) := by rw [List.getElem?_set_ne (by decide), h0]
    obtain ⟨k, st1, e, hk, ok1, f1⟩ := dp_run h1 ok
    obtain ⟨cs, st2, e2, l2, c2, ok2, f2⟩ := go_loop h0 row (acc ++ [.one k]) st1 st0 ok1 (f.trans f1) (by rw [List.length_append, List.length_singleton]; omega) (fun c hc => by
      rcases List.mem_append.mp hc with hc | hc
      · exact h c hc
      · exact ⟨k, List.mem_singleton.mp hc, hk⟩)
    refine ⟨cs, st2, ?_, by rw [l2, List.length_append, List.length_singleton, List.length_cons]; omega, c2, ok2, f2⟩
    rw [List.map_cons, lcGo_nx (e2 := env.set 3 (some (nW n))) (st1 := st) (y := cW (.one k)) (st2 := st1) True.intro rfl rfl e (by rw [List.length_map]; omega)]
    rw [List.map_append] at e2
    exact e2
theorem ones {cs : List Cmd} (h : ∀ c ∈ cs, ∃ k, c = .one k ∧ (k = "pass" ∨ k = "drop")) : (∀ c ∈ cs, c.ok) ∧ tks cs = cs.length := by
  refine ⟨fun c hc => by obtain ⟨k, e, hk⟩ := h c hc; rw [e]; exact hk, ?_⟩
  induction cs with
  | nil => rfl
  | cons c cs ih =>
    obtain ⟨k, e, _⟩ := h c List.mem_cons_self
    have i := ih fun x hx => h x (List.mem_cons_of_mem _ hx)
    unfold tks at i ⊢
    rw [List.map_cons, List.sum_cons, i, e, List.length_cons]
    show (1 : Int) + _ = _
    omega
end K04


set_option maxRecDepth 100000
set_option maxHeartbeats 4000000
namespace K04
open PySem L2 Evl Sh
theorem cost_le : ∀ {ls : List Line}, (∀ l ∈ ls, l.ok) → cost ls ≤ 320 * ls.length
  | [], _ => Nat.le_refl _
  | l :: ls, h => by
    have a := cost_le fun x hx => h x (List.mem_cons_of_mem _ hx)
    have b : l.cost ≤ 320 := by
      have := h l List.mem_cons_self
      cases l with
      | work d cs => exact this.2.2
      | move ex => have q : ex.length ≤ 40 := this.2; show ex.length ≤ 320; omega
    unfold cost at a ⊢
    rw [List.map_cons, List.sum_cons, List.length_cons]
    omega
theorem cost_snoc (ls : List Line) (l : Line) : cost (ls ++ [l]) = cost ls + l.cost := by
  unfold cost
  rw [List.map_append, List.sum_append]
  simp
variable [Wd]
noncomputable abbrev mainS : S :=
  (sSeq (sSet 2 (dCall m_chart (dCons (dVar 1) (dCons (dC (.int 7)) (dCons (dC (.int 9)) dNil)))))
  (sSeq (sIf (dB (dEq (dCall m_take (dCons (dVar 1) (dCons (dC (.int 2)) dNil))) (dC (.int 1))))
  (sDrop (dBM tyL mAppend (dVar 2) (dCons (dTup (dCons (dC (.str "work")) (dCons (dC (.str "right")) (dCons (dPure (dLc (iL (dOp oIx (dCall m_done (dCons (dVar 2) dNil)) (dC (.int 0)))) (gN 3) tYesW dpE [3])) dNil)))) dNil)))
  sNil)
  tailS))
theorem main_run {ns : List Int} {s : Nat} {st : Store} {s0 : Option W} (ok : StOk ns st s) : ∃ st', mainS [s0, some (.cell s), none, none, none, none, none, none, none, none] st = .rt (.bl true) st' := by
  obtain ⟨ls, c, r, st1, a1, a2, ne, a3, a4, a5, a6, a7⟩ := chart_cell (most := 7) (lines := 9) ok (by decide) (by decide) (by decide) (by decide)
  have fr := fits_r a4
  have cl := cost_le a3
  have rl := lcell_lt a2
  obtain ⟨v, st2, b1, b2, b3, b4, b5⟩ := tk_at (env := [s0, some (.cell s), some (.cell r), none, none, none, none, none, none, none]) (i := 1) (k := 2) rfl a6 (by decide) (by decide)
  have r2 : lcell st2 r = some (ls.map lW) := by rw [b5.cell ne rl]; exact a2
  have e2 : sSet 2 (dCall m_chart (dCons (dVar 1) (dCons (dC (.int 7)) (dCons (dC (.int 9)) dNil)))) [s0, some (.cell s), none, none, none, none, none, none, none, none] st = .nx [s0, some (.cell s), some (.cell r), none, none, none, none, none, none, none] st1 := sSet_at (rCall (rCons (rV rfl) (rCons rC (rCons rC rNil))) a1)
  have t : dB (dEq (dCall m_take (dCons (dVar 1) (dCons (dC (.int 2)) dNil))) (dC (.int 1))) [s0, some (.cell s), some (.cell r), none, none, none, none, none, none, none] st1 = .ok (decide (v = 1)) st2 := rB (rOp b1 rC rfl)
  by_cases q : v = 1
  · have rl2 := lcell_lt r2
    obtain ⟨row, L, dr, X, k, st3, d1, D, d2, _⟩ := done_run (st0 := st2) (ls := ls) (c := c) (w0 := .cell r) (ok := fun st => lcell st r = some (ls.map lW)) (fun st' h => by
      unfold lcell at r2 ⊢
      rw [h r rl2]
      exact r2) a3 fr (by omega) fun env st' h0 h => rCl (rV h0) (by
      unfold lcell at r2 ⊢
      rw [h r rl2]
      exact r2)
    have sl := b4.lt
    have ok3 : StOk ns st3 s := by
      obtain ⟨x, y, z, w, u⟩ := b4
      refine ⟨x, y, z, ?_, u⟩
      unfold lcell at w ⊢
      rw [D.fr s sl]
      exact w
    have r3 : lcell st3 r = some (ls.map lW) := by
      unfold lcell at r2 ⊢
      rw [D.fr r rl2]
      exact r2
    have dr' := D.r
    obtain ⟨cs, st4, g1, g2, g3, g4, g5⟩ := go_loop (env := [s0, some (.cell s), some (.cell r), none, none, none, none, none, none, none]) rfl row [] st3 st3 ok3 (Fr.refl s st3) (by simp; omega) (fun c hc => by cases hc)
    rw [List.length_nil, Nat.zero_add] at g2
    obtain ⟨o1, o2⟩ := ones g3
    have r4 : lcell st4 r = some (ls.map lW) := by rw [g5.cell ne (lcell_lt r3)]; exact r3
    have arg : dTup (dCons (dC (.str "work")) (dCons (dC (.str "right")) (dCons (dPure (dLc (iL (dOp oIx (dCall m_done (dCons (dVar 2) dNil)) (dC (.int 0)))) (gN 3) tYesW dpE [3])) dNil))) [s0, some (.cell s), some (.cell r), none, none, none, none, none, none, none] st2 = .ok (lW (.work "right" cs)) st4 := by
      refine rTup (rCons rC (rCons rC (rCons (rPure (rLc (rList (xs := row.map nW) (rOp (rCall (rCons (rV rfl) rNil) d1) rC (ix_at rfl (by decide) rfl))) g1)) rNil))) (line_ge (show 3 ≤ 1024 by decide))
    have ap : sDrop (dBM tyL mAppend (dVar 2) (dCons (dTup (dCons (dC (.str "work")) (dCons (dC (.str "right")) (dCons (dPure (dLc (iL (dOp oIx (dCall m_done (dCons (dVar 2) dNil)) (dC (.int 0)))) (gN 3) tYesW dpE [3])) dNil)))) dNil)) [s0, some (.cell s), some (.cell r), none, none, none, none, none, none, none] st2 =
        .nx [s0, some (.cell s), some (.cell r), none, none, none, none, none, none, none] (st4.set r (.lst (ls.map lW ++ [lW (.work "right" cs)]))) :=
      sDrop_at (rBM (rV rfl) (tyL_cell r2) (rCons arg rNil) (app_at r4 (by rw [List.length_map]; omega)))
    have okl : ∀ l ∈ ls ++ [Line.work "right" cs], l.ok := fun l hl => by
      rcases List.mem_append.mp hl with hl | hl
      · exact a3 l hl
      · rw [List.mem_singleton.mp hl]
        exact ⟨.inr rfl, o1, by omega⟩
    obtain ⟨st', e⟩ := tail_run (ls := ls ++ [.work "right" cs]) (c := (aft cs : Int)) (st := st4.set r (.lst (ls.map lW ++ [lW (.work "right" cs)]))) (r := r) (s0 := s0) (s1 := some (.cell s)) (o3 := none)
      (by rw [lcell_set (lcell_lt r4), List.map_append]; rfl) okl (fr.snoc (l := .work "right" cs) (c2 := (aft cs : Int)) ⟨by rw [o2, g2]; exact d2.symm, rfl⟩) (by
        rw [cost_snoc]
        show cost ls + cs.length ≤ _
        omega)
    exact ⟨st', sSeq_at e2 (sSeq_at (sIf_t (t.trans (by rw [decide_eq_true q])) ap) e)⟩
  · obtain ⟨st', e⟩ := tail_run (s0 := s0) (s1 := some (.cell s)) (o3 := none) r2 a3 fr (by omega)
    exact ⟨st', sSeq_at e2 (sSeq_at (sIf_f (t.trans (by rw [decide_eq_false q])) sNil_at) e)⟩
end K04


set_option maxRecDepth 100000
set_option maxHeartbeats 4000000
namespace K04
open PySem L2 Evl Sh
/-! the long charts -/
theorem work_ok {m : Nat} {cs : List Cmd} (hm : m ≤ 1400) (hc : ∀ c ∈ cs, c.ok) (h2 : cs.length = 2) (ht : tks cs = 2) (ha : aft cs = 2) : (∀ l ∈ [wR [tu, tu]] ++ List.replicate m (wR cs) ++ [wR [dp', ps]], l.ok) ∧ FitR 0 ([wR [tu, tu]] ++ List.replicate m (wR cs) ++ [wR [dp', ps]]) 1 ∧ cost ([wR [tu, tu]] ++ List.replicate m (wR cs) ++ [wR [dp', ps]]) ≤ 6500 ∧ Work ([wR [tu, tu]] ++ List.replicate m (wR cs) ++ [wR [dp', ps]]) := by
  have yk : YOk "a" := ⟨by decide +kernel, by decide +kernel⟩
  have mem : ∀ l ∈ [wR [tu, tu]] ++ List.replicate m (wR cs) ++ [wR [dp', ps]], l = wR [tu, tu] ∨ l = wR cs ∨ l = wR [dp', ps] := fun l hl => by
    rcases List.mem_append.mp hl with hl | hl
    · rcases List.mem_append.mp hl with hl | hl
      · exact .inl (List.mem_singleton.mp hl)
      · exact .inr (.inl (List.eq_of_mem_replicate hl))
    · exact .inr (.inr (List.mem_singleton.mp hl))
  have reps : ∀ k, FitR 2 (List.replicate k (wR cs)) 2 := fun k => by
    induction k with
    | zero => rfl
    | succ k ih => exact ⟨2, ⟨ht, by rw [ha]; rfl⟩, ih⟩
  have app : ∀ {xs ys : List Line} {a b c : Int}, FitR a xs b → FitR b ys c → FitR a (xs ++ ys) c := fun {xs} => by
    induction xs with
    | nil =>
      intro ys a b c h k
      have h : b = a := h
      subst h
      exact k
    | cons x xs ih =>
      intro ys a b c ⟨d, h1, h2⟩ k
      exact ⟨d, h1, ih h2 k⟩
  refine ⟨fun l hl => ?_, app (app (b := 2) ⟨2, ⟨rfl, rfl⟩, rfl⟩ (reps m)) ⟨1, ⟨rfl, rfl⟩, rfl⟩, ?_, fun l hl => ?_⟩
  · rcases mem l hl with rfl | rfl | rfl
    · refine ⟨.inr rfl, fun c hc => ?_, by decide⟩
      have : c = tu := by simpa using hc
      rw [this]
      exact ⟨.inr (.inr rfl), yk⟩
    · exact ⟨.inr rfl, hc, by omega⟩
    · refine ⟨.inr rfl, fun c hc => ?_, by decide⟩
      have : c = dp' ∨ c = ps := by simpa using hc
      rcases this with rfl | rfl
      · exact .inr rfl
      · exact .inl rfl
  · unfold cost
    rw [List.map_append, List.map_append, List.sum_append, List.sum_append, List.map_replicate]
    have : (List.replicate m (wR cs).cost).sum = m * 2 := by
      rw [show (wR cs).cost = 2 from h2]
      simp
    rw [this]
    show 2 + 0 + m * 2 + (2 + 0) ≤ 6500
    omega
  · rcases mem l hl with rfl | rfl | rfl <;> exact ⟨_, _, rfl⟩
variable [Wd]
/-- the end of such a chart -/
noncomputable abbrev lastS : S :=
  (sSeq (sSet 7 (dCallB cRepr (dCons (dVar 6) dNil)))
  (sRet (dAndV (dEq (dCallB cRepr (dCons (dCall m_undone (dCons (dVar 6) dNil)) dNil)) (dCallB cRepr (dCons (dVar 3) dNil))) (dEq (dCallB cRepr (dCons (dVar 6) dNil)) (dVar 7)))))
theorem last_run {L : List Lp} {X : List Xc} {row dr due : List Nm} {z : Nat} {st : Store} {s0 s1 s2 s4 s5 : Option W} (Fb : Fab row L dr X z) (hz : z ≤ 6500) (nd : due.Nodup) (hs : due.Pairwise fun a b => PySem.W.dataLe false dN a b = true) (dk : ∀ x ∈ due, nOk x) (dl : due.length ≤ 6500)
    (mem : ∀ F : List Nm, (∀ a ∈ F, ∃ l ∈ L, l.1 = a) → (∀ a, a ∈ F ↔ a ∈ dr ∨ ∃ l ∈ L, l.1 ∈ F ∧ a ∈ dep l) → ∀ a, a ∈ F ↔ a ∈ due) :
    ∃ st', lastS [s0, s1, s2, some (.lst (due.map nW)), s4, s5, some (fabW L X row dr), none] st = .rt (.bl true) st' ∧ ∀ k, k < st.length → st'[k]? = st[k]? := by
  have U := Fb.und (show z ≤ 200000 by omega)
  have p := List.mergeSort_perm dr (PySem.W.dataLe false dN)
  have U2 : Und ((srtL L).map fun l => (l.1, dep l)) (srtN dr) := by
    refine ⟨U.nd, fun a => ?_, fun a ha => ?_, U.z.1, ?_⟩
    · have := U.one a
      rw [List.count_append] at this ⊢
      rw [show (srtN dr).count a = dr.count a from p.count_eq a]
      exact this
    · exact U.sub a ((List.mem_append.mp ha).elim (fun h => List.mem_append_left _ (p.mem_iff.mp h)) fun h => List.mem_append_right _ h)
    · have := U.z.2
      rw [List.length_append] at this ⊢
      rw [show (srtN dr).length = dr.length from List.length_mergeSort dr]
      exact this
  obtain ⟨F, st', e, D, _, fr⟩ := undone_run (α := Lp) (nm := (·.1)) (dp := dep) (f := rowW) row0 row2 (p1 := .lst ((srtX X).map xrW)) (p2 := restW row) (st := st) U2
  obtain ⟨nf, sub, cl⟩ := df_end U2 D
  have eq : srtN F = due := same_sort nf nd (mem F (fun a ha => by
    obtain ⟨r, hr, e⟩ := List.mem_map.mp (sub a ha)
    obtain ⟨l, hl, e2⟩ := List.mem_map.mp hr
    exact ⟨l, (mem_srt L l).mp hl, by rw [← e, ← e2]⟩) fun a => by
    rw [cl a]
    refine or_congr p.mem_iff ⟨fun ⟨r, hr, h1, h2⟩ => ?_, fun ⟨l, hl, h1, h2⟩ => ⟨_, List.mem_map.mpr ⟨l, (mem_srt L l).mpr hl, rfl⟩, h1, h2⟩⟩
    obtain ⟨l, hl, e⟩ := List.mem_map.mp hr
    subst e
    exact ⟨l, (mem_srt L l).mp hl, h1, h2⟩) hs
  rw [eq] at e
  obtain ⟨x1, x2, x3⟩ := Fb.fit hz
  have dw := wtDs_map (f := nW) (c := 41) fun x hx => wt_nW (dk x hx)
  have dd := dpDs_map (f := nW) (xs := due) (c := 1) fun n _ => dp_nW n
  have e20 : (2 : Nat) ^ 20 = 1048576 := by decide
  have rep : ∀ s, cRepr [fabW L X row dr] s = .ok (.str (shownW (fabW L X row dr))) s := fun s => repr_at s x1 x2 x3 rfl
  have rl : ∀ s, cRepr [.lst (due.map nW)] s = .ok (.str (shownW (.lst (due.map nW)))) s := fun s => repr_at (w := .lst (due.map nW)) s (ok_Ns dk) (show wtDs (due.map nW) ≤ 2 ^ 20 by rw [e20]; omega) (show dpDs (due.map nW) + 1 ≤ 60 by omega) rfl
  have eqs : ∀ (x : Str) s, oEq (.str x) (.str x) s = .ok (.bl true) s := fun x s => by rw [oEq_str, decide_eq_true rfl]
  refine ⟨st', sSeq_at (sSet_at (rCallB (rCons (rV rfl) rNil) (rep st))) (sRet_at ?_), fr⟩
  exact rAndVT (rOp (rCallB (rCons (rCall (rCons (rV rfl) rNil) e) rNil) (rl _)) (rCallB (rCons (rV rfl) rNil) (rl _)) (eqs _ _)) (rOp (rCallB (rCons (rV rfl) rNil) (rep _)) (rV rfl) (eqs _ _))
end K04


set_option maxRecDepth 100000
set_option maxHeartbeats 4000000
namespace K04
open PySem L2 Evl Sh
theorem flat_rep {x : W} : ∀ n : Nat, (List.replicate n [x]).flatten = List.replicate n x
  | 0 => rfl
  | n + 1 => by
    rw [List.replicate_succ, List.replicate_succ, List.flatten_cons, flat_rep n]
    rfl
variable [Wd]
noncomputable abbrev restS : S :=
  (sSeq (sSet 5 (dPure (dOpF oCat (dPure (dLst (dCons (dTup (dCons (dC (.str "work")) (dCons (dC (.str "right")) (dCons (dPure (dLst (dCons (dTup (dCons (dC (.str "tuck")) (dCons (dC (.str "a")) dNil))) (dCons (dTup (dCons (dC (.str "tuck")) (dCons (dC (.str "a")) dNil))) dNil)))) dNil)))) dNil))) (dPure (dOpF oRep (dPure (dLst (dCons (dTup (dCons (dC (.str "work")) (dCons (dC (.str "right")) (dCons (dVar 2) dNil)))) dNil))) (dVar 1))))))
  (sSeq (sSet 6 (dCall m_fabric (dCons (dPure (dOpF oCat (dVar 5) (dPure (dLst (dCons (dTup (dCons (dC (.str "work")) (dCons (dC (.str "right")) (dCons (dPure (dLst (dCons (dTup (dCons (dC (.str "drop")) dNil)) (dCons (dTup (dCons (dC (.str "pass")) dNil)) dNil)))) dNil)))) dNil))))) dNil)))
  lastS))
theorem rest_run {m : Nat} {cs : List Cmd} {due : List Nm} {st : Store} {s0 o4 : Option W} (hm : m ≤ 1400) (hc : ∀ c ∈ cs, c.ok) (h2 : cs.length = 2) (ht : tks cs = 2) (ha : aft cs = 2)
    (nd : due.Nodup) (hs : due.Pairwise fun a b => PySem.W.dataLe false dN a b = true) (dk : ∀ x ∈ due, nOk x) (dl : due.length ≤ 6500)
    (mem : ∀ row L dr, tri row L dr = wlns ([wR [tu, tu]] ++ List.replicate m (wR cs) ++ [wR [dp', ps]]) (tri [] [] []) → ∀ F : List Nm, (∀ a ∈ F, ∃ l ∈ L, l.1 = a) → (∀ a, a ∈ F ↔ a ∈ dr ∨ ∃ l ∈ L, l.1 ∈ F ∧ a ∈ dep l) → ∀ a, a ∈ F ↔ a ∈ due) :
    ∃ st', restS [s0, some (.int (m : Int)), some (.lst (cs.map cW)), some (.lst (due.map nW)), o4, none, none, none] st = .rt (.bl true) st' ∧ ∀ k, k < st.length → st'[k]? = st[k]? := by
  obtain ⟨w1, w2, w3, w4⟩ := work_ok hm hc h2 ht ha
  have l1 : (1 : Nat) ≤ sizeLine := line_ge (show 1 ≤ 1024 by decide)
  have l2 : (2 : Nat) ≤ sizeLine := line_ge (show 2 ≤ 1024 by decide)
  have l3 : (3 : Nat) ≤ sizeLine := line_ge (show 3 ≤ 1024 by decide)
  have s5 : sSet 5 (dPure (dOpF oCat (dPure (dLst (dCons (dTup (dCons (dC (.str "work")) (dCons (dC (.str "right")) (dCons (dPure (dLst (dCons (dTup (dCons (dC (.str "tuck")) (dCons (dC (.str "a")) dNil))) (dCons (dTup (dCons (dC (.str "tuck")) (dCons (dC (.str "a")) dNil))) dNil)))) dNil)))) dNil))) (dPure (dOpF oRep (dPure (dLst (dCons (dTup (dCons (dC (.str "work")) (dCons (dC (.str "right")) (dCons (dVar 2) dNil)))) dNil))) (dVar 1)))))
      [s0, some (.int (m : Int)), some (.lst (cs.map cW)), some (.lst (due.map nW)), o4, none, none, none] st = .nx [s0, some (.int (m : Int)), some (.lst (cs.map cW)), some (.lst (due.map nW)), o4, some (.lst ([lW (wR [tu, tu])] ++ List.replicate m (lW (wR cs)))), none, none] st := by
    refine sSet_at (rPure (rOpF (st1 := st) (st2 := st) (x := .lst [lW (wR [tu, tu])]) (y := .lst (List.replicate m (lW (wR cs)))) (rPure (rLst (rCons (rTup (rCons rC (rCons rC (rCons (rPure (rLst (rCons (rTup (rCons rC (rCons rC rNil)) l2) (rCons (rTup (rCons rC (rCons rC rNil)) l2) rNil)) l2)) rNil))) l3) rNil) l1)) (rPure (rOpF (st1 := st) (st2 := st) (x := .lst [lW (wR cs)]) (y := .int (m : Int)) (rPure (rLst (rCons (rTup (rCons rC (rCons rC (rCons (rV rfl) rNil))) l3) rNil) l1)) (rV rfl) ?_)) (cat_at rfl rfl ?_)))
    · rw [oRep_at (n := m) (xs := [lW (wR cs)]) rfl (big_ge (by show 1 * m ≤ _; omega)) (by omega), flat_rep]
    · show 1 + (List.replicate m _).length ≤ _
      rw [List.length_replicate]
      omega
  have vls : ([lW (wR [tu, tu])] ++ List.replicate m (lW (wR cs))) ++ [lW (wR [dp', ps])] = ([wR [tu, tu]] ++ List.replicate m (wR cs) ++ [wR [dp', ps]]).map lW := by
    rw [List.map_append, List.map_append, List.map_replicate]
    rfl
  generalize hls : [wR [tu, tu]] ++ List.replicate m (wR cs) ++ [wR [dp', ps]] = ls at w1 w2 w3 w4 vls mem
  obtain ⟨row, L, dr, X, st1, e1, Fb, _, _, ln, f1, wl⟩ := fabric_run' (st0 := st) (w0 := .lst (ls.map lW)) (ok := fun _ => True) (fun _ _ => True.intro) w1 w2 (by omega) fun env st' h0 _ => rList (rV h0)
  have s6 : sSet 6 (dCall m_fabric (dCons (dPure (dOpF oCat (dVar 5) (dPure (dLst (dCons (dTup (dCons (dC (.str "work")) (dCons (dC (.str "right")) (dCons (dPure (dLst (dCons (dTup (dCons (dC (.str "drop")) dNil)) (dCons (dTup (dCons (dC (.str "pass")) dNil)) dNil)))) dNil)))) dNil))))) dNil))
      [s0, some (.int (m : Int)), some (.lst (cs.map cW)), some (.lst (due.map nW)), o4, some (.lst ([lW (wR [tu, tu])] ++ List.replicate m (lW (wR cs)))), none, none] st = .nx [s0, some (.int (m : Int)), some (.lst (cs.map cW)), some (.lst (due.map nW)), o4, some (.lst ([lW (wR [tu, tu])] ++ List.replicate m (lW (wR cs)))), some (fabW L X row dr), none] st1 := by
    rw [← vls] at e1
    refine sSet_at (rCall (rCons (rPure (rOpF (st1 := st) (st2 := st) (x := .lst ([lW (wR [tu, tu])] ++ List.replicate m (lW (wR cs)))) (y := .lst [lW (wR [dp', ps])]) (rV rfl) (rPure (rLst (rCons (rTup (rCons rC (rCons rC (rCons (rPure (rLst (rCons (rTup (rCons rC rNil) l1) (rCons (rTup (rCons rC rNil) l1) rNil)) l2)) rNil))) l3) rNil) l1)) (cat_at rfl rfl ?_))) rNil) e1)
    rw [List.length_append, List.length_replicate]
    show 1 + m + 1 ≤ _
    omega
  obtain ⟨st2, e2, f2⟩ := last_run (s0 := s0) (s1 := some (.int (m : Int))) (s2 := some (.lst (cs.map cW))) (s4 := o4) (s5 := some (.lst ([lW (wR [tu, tu])] ++ List.replicate m (lW (wR cs))))) (st := st1) (due := due) Fb w3 nd hs dk dl (mem row L dr (wl w4))
  exact ⟨st2, sSeq_at s5 (sSeq_at s6 e2), fun k hk => (f2 k (by omega)).trans (f1 k hk)⟩
end K04


set_option maxRecDepth 100000
set_option maxHeartbeats 4000000
namespace K04
open PySem L2 Evl Sh
theorem yk_a : YOk "a" := ⟨by decide +kernel, by decide +kernel⟩
theorem an_ok {k : Nat} (h : k ≤ 200000) : nOk (an k) := ⟨yk_a, h⟩
theorem rng2 (m : Nat) : rngW 2 m = (List.range m).map fun i : Nat => W.int ((i + 2 : Nat) : Int) := by
  unfold rngW
  exact List.map_congr_left fun i _ => by congr 1; omega
variable [Wd]
abbrev gE (s m : Nat) (o2 o3 o4 : Option W) : Sh.Env := [some (.cell s), some (.int (m : Int)), o2, o3, o4, none, none, none]
theorem long_run {ns : List Int} {s : Nat} {st : Store} (ok : StOk ns st s) : ∃ st', m_is_long_right [.cell s] st = .ok (.bl true) st' ∧ StOk ns st' s := by
  have l1 : (1 : Nat) ≤ sizeLine := line_ge (show 1 ≤ 1024 by decide)
  have l2 : (2 : Nat) ≤ sizeLine := line_ge (show 2 ≤ 1024 by decide)
  have l5 : (5 : Nat) ≤ sizeLine := line_ge (show 5 ≤ 1024 by decide)
  have yk : YOk "a" := ⟨by decide +kernel, by decide +kernel⟩
  obtain ⟨v, st1, a1, a2, a3, a4, a5⟩ := tk_at (env := [some (.cell s), none, none, none, none, none, none, none]) (i := 0) (k := 500) rfl ok (by decide) (by decide)
  obtain ⟨m, hm⟩ : ∃ m : Nat, (m : Int) = 900 + v := ⟨(900 + v).toNat, by omega⟩
  have m0 : 900 ≤ m := by omega
  have m1 : m ≤ 1400 := by omega
  have s1 : sSet 1 (dAdd (dC (.int 900)) (dCall m_take (dCons (dVar 0) (dCons (dC (.int 500)) dNil)))) [some (.cell s), none, none, none, none, none, none, none] st = .nx (gE s m none none none) st1 := by
    have : dAdd (dC (.int 900)) (dCall m_take (dCons (dVar 0) (dCons (dC (.int 500)) dNil))) [some (.cell s), none, none, none, none, none, none, none] st = .ok (.int (m : Int)) st1 := rOp rC a1 (by rw [hm]; rfl)
    exact sSet_at this
  have s2 : sSet 2 (dPure (dLst (dCons (dTup (dCons (dC (.str "knit")) (dCons (dC (.str "a")) dNil))) (dCons (dTup (dCons (dC (.str "pass")) dNil)) dNil)))) (gE s m none none none) st1 = .nx (gE s m (some (.lst ([kn, ps].map cW))) none none) st1 :=
    sSet_at (rPure (rLst (rCons (rTup (rCons rC (rCons rC rNil)) l2) (rCons (rTup (rCons rC rNil) l1) rNil)) l2))
  have s3 : sSet 3 (dPure (dOpF oCat (dPure (dLst (dCons (dTup (dCons (dC (.str "a")) (dCons (dC (.int 0)) dNil))) dNil))) (dPure (dLc (iR2 (dCons (dC (.int 2)) (dCons (dAdd (dVar 1) (dC (.int 2))) dNil))) (gN 4) tYesW (dTup (dCons (dC (.str "a")) (dCons (dVar 4) dNil))) [4])))) (gE s m (some (.lst ([kn, ps].map cW))) none none) st1 =
      .nx (gE s m (some (.lst ([kn, ps].map cW))) (some (.lst ((dueA m).map nW))) none) st1 := by
    have e : (dueA m).map nW = [nW (an 0)] ++ (List.range m).map fun i => nW (an (i + 2)) := by
      show nW (an 0) :: ((List.range m).map _).map nW = _
      rw [List.map_map]
      rfl
    rw [e]
    refine sSet_at (rPure (rOpF (st1 := st1) (st2 := st1) (x := .lst [nW (an 0)]) (y := .lst ((List.range m).map fun i => nW (an (i + 2)))) (rPure (rLst (rCons (rTup (rCons rC (rCons rC rNil)) l2) rNil) l1)) (rPure (rLc (rR2 (i := 2) (j := (m : Int) + 2) (rCons rC (rCons (rOp (rV rfl) rC rfl) rNil)) (sm_lit (by decide) (by decide)) (sm_lit (by omega) (by omega))) ?_)) (cat_at rfl rfl (by rw [List.length_map, List.length_range]; show 1 + m ≤ _; omega))))
    show lcGo (fun _ => True) _ _ _ _ (rngW 2 ((m : Int) + 2 - 2).toNat) [] st1 = _
    rw [show ((m : Int) + 2 - 2).toNat = m by omega, rng2]
    exact (lc_calm True.intro (e2 := fun i : Nat => gE s m (some (.lst ([kn, ps].map cW))) none (some (.int ((i + 2 : Nat) : Int)))) (f := fun i => nW (an (i + 2))) (List.range m) [] (fun i hi => ⟨rfl, rfl, rTup (rCons rC (rCons (rV rfl) rNil)) l2⟩) (by rw [List.length_range]; simp; omega)).trans (by rw [List.nil_append])
  obtain ⟨u, st2, b1, b2, b3, b4, b5⟩ := tk_at (env := gE s m (some (.lst ([kn, ps].map cW))) (some (.lst ((dueA m).map nW))) none) (i := 0) (k := 2) rfl a4 (by decide) (by decide)
  have t : dB (dEq (dCall m_take (dCons (dVar 0) (dCons (dC (.int 2)) dNil))) (dC (.int 1))) (gE s m (some (.lst ([kn, ps].map cW))) (some (.lst ((dueA m).map nW))) none) st1 = .ok (decide (u = 1)) st2 := rB (rOp b1 rC rfl)
  have keep : ∀ {x y : Store}, StOk ns x s → (∀ k, k < x.length → y[k]? = x[k]?) → StOk ns y s := fun {x y} h f => by
    have hl := h.lt
    obtain ⟨p, q, r, w, z⟩ := h
    refine ⟨p, q, r, ?_, z⟩
    unfold lcell at w ⊢
    rw [f s hl]
    exact w
  have end' : ∀ {L : List Lp} {F : List Nm} {x : Nm}, (∀ a, a ∈ F ↔ a ∈ [x] ∨ ∃ l ∈ L, l.1 ∈ F ∧ a ∈ dep l) → ∀ a, a ∈ F ↔ a = x ∨ ∃ l ∈ L, l.1 ∈ F ∧ a ∈ dep l := fun h a => (h a).trans (or_congr List.mem_singleton Iff.rfl)
  by_cases q : u = 1
  · obtain ⟨w, st3, c1, c2, c3, c4⟩ := pick_run (env := gE s m (some (.lst ([kn, ps].map cW))) (some (.lst ((dueA m).map nW))) none) (dl := dCons (dC (.str "left")) (dCons (dC (.str "right")) dNil)) (xs := [.str "left", .str "right"]) (e := dC (.int 2)) rfl (rCons rC (rCons rC rNil)) rC b4 (by decide) (by decide)
    obtain ⟨z, rfl, hz⟩ : ∃ y : Str, w = .str y ∧ (y = "left" ∨ y = "right") := by
      simp only [List.mem_cons, List.not_mem_nil, or_false] at c1
      rcases c1 with rfl | rfl
      · exact ⟨_, rfl, .inl rfl⟩
      · exact ⟨_, rfl, .inr rfl⟩
    have okc : ∀ c ∈ [jn z, tu], c.ok := fun c hc => by
      have : c = jn z ∨ c = tu := by simpa using hc
      rcases this with rfl | rfl
      · exact ⟨⟨by decide, by decide⟩, hz, .inr rfl, yk⟩
      · exact ⟨.inr (.inr rfl), yk⟩
    obtain ⟨st', e1, f1⟩ := rest_run (m := m) (cs := [jn z, tu]) (due := dueB m) (st := st3) (s0 := some (.cell s)) (o4 := none) m1 okc rfl rfl rfl (nodup_due (range_lt _)) (ord_due (range_lt _)) (fun x hx => by
      obtain ⟨k, hk, rfl⟩ := List.mem_map.mp hx
      have := List.mem_range.mp hk
      exact an_ok (by omega)) (by unfold dueB; rw [List.length_map, List.length_range]; omega) (fun row L dr h F h1 h2 => by
      rw [runB z m] at h
      obtain ⟨_, rfl, rfl⟩ : row = _ ∧ L = _ ∧ dr = _ := ⟨congrArg (·.1) h, congrArg (·.2.1) h, congrArg (·.2.2) h⟩
      exact memB h1 (end' h2))
    have mul : dMul (dC (.int 2)) (dVar 1) (gE s m (some (.lst ([jn z, tu].map cW))) (some (.lst ((dueA m).map nW))) none) st3 = .ok (.int (2 * (m : Int))) st3 := rOp rC (rV rfl) (oIC_at (cmul ⟨by omega, by omega⟩))
    have k2 : sSet 2 (dPure (dLst (dCons (dTup (dCons (dC (.str "join")) (dCons (dC (.int 2)) (dCons (dOp oIx (dPure (dLst (dCons (dC (.str "left")) (dCons (dC (.str "right")) dNil)))) (dCall m_take (dCons (dVar 0) (dCons (dC (.int 2)) dNil)))) (dCons (dC (.str "purl")) (dCons (dC (.str "a")) dNil)))))) (dCons (dTup (dCons (dC (.str "tuck")) (dCons (dC (.str "a")) dNil))) dNil)))) (gE s m (some (.lst ([kn, ps].map cW))) (some (.lst ((dueA m).map nW))) none) st2 =
        .nx (gE s m (some (.lst ([jn z, tu].map cW))) (some (.lst ((dueA m).map nW))) none) st3 := sSet_at (rPure (rLst (rCons (rTup (rCons rC (rCons rC (rCons c2 (rCons rC (rCons rC rNil))))) l5) (rCons (rTup (rCons rC (rCons rC rNil)) l2) rNil)) l2))
    have k3 : sSet 3 (dPure (dLc (iR1 (dCons (dAdd (dMul (dC (.int 2)) (dVar 1)) (dC (.int 1))) dNil)) (gN 4) tYesW (dTup (dCons (dC (.str "a")) (dCons (dVar 4) dNil))) [4])) (gE s m (some (.lst ([jn z, tu].map cW))) (some (.lst ((dueA m).map nW))) none) st3 =
        .nx (gE s m (some (.lst ([jn z, tu].map cW))) (some (.lst ((dueB m).map nW))) none) st3 := by
      refine sSet_at (rPure (rLc (rR1 (n := 2 * m + 1) (rCons (rOp mul rC (by show Out.ok (W.int _) st3 = _; congr 2)) rNil) (sm_nat (by omega))) ?_))
      rw [rng_nat]
      refine (lc_calm True.intro (e2 := fun i : Nat => gE s m (some (.lst ([jn z, tu].map cW))) (some (.lst ((dueA m).map nW))) (some (.int (i : Int)))) (f := fun i => nW (an i)) (List.range (2 * m + 1)) [] (fun i hi => ⟨rfl, rfl, rTup (rCons rC (rCons (rV rfl) rNil)) l2⟩) (by rw [List.length_range]; simp; omega)).trans ?_
      rw [List.nil_append]
      unfold dueB
      rw [List.map_map]
      rfl
    refine ⟨st', body_rt rfl (sSeq_at s1 (sSeq_at s2 (sSeq_at s3 (sSeq_at (sIf_t (t.trans (by rw [decide_eq_true q])) (sSeq_at k2 k3)) e1)))), keep c3 f1⟩
  · have okc : ∀ c ∈ [kn, ps], c.ok := fun c hc => by
      have : c = kn ∨ c = ps := by simpa using hc
      rcases this with rfl | rfl
      · exact ⟨.inl rfl, yk⟩
      · exact .inl rfl
    obtain ⟨st', e1, f1⟩ := rest_run (m := m) (cs := [kn, ps]) (due := dueA m) (st := st2) (s0 := some (.cell s)) (o4 := none) m1 okc rfl rfl rfl (by rw [dueA_ks]; exact nodup_due (ksA m)) (by rw [dueA_ks]; exact ord_due (ksA m)) (fun x hx => by
      rw [dueA_ks] at hx
      obtain ⟨k, hk, rfl⟩ := List.mem_map.mp hx
      refine an_ok ?_
      rcases List.mem_cons.mp hk with rfl | hk
      · omega
      · obtain ⟨i, hi, rfl⟩ := List.mem_map.mp hk
        have := List.mem_range.mp hi
        omega) (by unfold dueA; rw [List.length_cons, List.length_map, List.length_range]; omega) (fun row L dr h F h1 h2 => by
      rw [runA m] at h
      obtain ⟨_, rfl, rfl⟩ : row = _ ∧ L = _ ∧ dr = _ := ⟨congrArg (·.1) h, congrArg (·.2.1) h, congrArg (·.2.2) h⟩
      exact memA (by omega) h1 (end' h2))
    exact ⟨st', body_rt rfl (sSeq_at s1 (sSeq_at s2 (sSeq_at s3 (sSeq_at (sIf_f (t.trans (by rw [decide_eq_false q])) sNil_at) e1)))), keep b4 f1⟩
/-- the law is true -/
theorem law_true (ns : List Int) (h : ns.length ≤ 63) : ∃ st, m_law [.fz (ns.map W.int)] [] = .ok (.bl true) st := by
  obtain ⟨c, a1, a2⟩ := state_ok ns []
  have a2 : StOk ns [c] 0 := a2
  have s1 : sSet 1 (dCall m_state (dCons (dVar 0) dNil)) [some (.fz (ns.map W.int)), none, none, none, none, none, none, none, none, none] [] = .nx [some (.fz (ns.map W.int)), some (.cell 0), none, none, none, none, none, none, none, none] [c] := sSet_at (rCall (rCons (rV rfl) rNil) a1)
  obtain ⟨v, st1, b1, b2, b3, b4, b5⟩ := tk_at (env := [some (.fz (ns.map W.int)), some (.cell 0), none, none, none, none, none, none, none, none]) (i := 1) (k := 8) rfl a2 (by decide) (by decide)
  have t : dB (dEq (dCall m_take (dCons (dVar 1) (dCons (dC (.int 8)) dNil))) (dC (.int 1))) [some (.fz (ns.map W.int)), some (.cell 0), none, none, none, none, none, none, none, none] [c] = .ok (decide (v = 1)) st1 := rB (rOp b1 rC rfl)
  by_cases q : v = 1
  · obtain ⟨st2, e1, ok2⟩ := long_run b4
    have tr : dNot (dTru (dCall m_is_long_right (dCons (dVar 1) dNil))) [some (.fz (ns.map W.int)), some (.cell 0), none, none, none, none, none, none, none, none] st1 = .ok false st2 := by
      refine rNot (c := true) ?_
      unfold dTru
      rw [rCall (rCons (rV rfl) rNil) e1]
      rfl
    obtain ⟨st3, e2⟩ := main_run (s0 := some (.fz (ns.map W.int))) ok2
    exact ⟨st3, body_rt rfl (sSeq_at s1 (sSeq_at (sIf_f (rAndT (t.trans (by rw [decide_eq_true q])) tr) sNil_at) e2))⟩
  · obtain ⟨st3, e2⟩ := main_run (s0 := some (.fz (ns.map W.int))) b4
    exact ⟨st3, body_rt rfl (sSeq_at s1 (sSeq_at (sIf_f (rAndF (t.trans (by rw [decide_eq_false q]))) sNil_at) e2))⟩
end K04


namespace K04
open PySem L2 Evl Sh
/-- some world -/
def someW : World := ⟨fun _ n => n, { strHash := fun _ => 0, shareClass := id, mergeTok := id, idOf := fun _ => 0, idOfShared := fun _ _ => 0, followText := fun _ => false, idOfImm := fun _ => 0 }⟩
theorem law_true0 (ns : List Int) (h : ns.length ≤ 63) : ∃ st, m_law [.fz (ns.map W.int)] [] = .ok (.bl true) st := @law_true ⟨default, someW⟩ ns h
end K04


set_option maxRecDepth 100000
set_option maxHeartbeats 4000000
namespace K04
open PySem L2 Evl Sh

theorem all_mk {l : PySem.W.OpenLaw} {w : World} {K : PySem.W.Frag} {h : Heap} {mg : MG} {fa : Addr} (X : K.In h) (G : h.Ns mainGlobals mg) (hfa : mg "law" = some (.ref fa))
    {f0 : Addr} {od0 an0 : Option Addr} {sl0 : Array (Option Value)} {oc0 kV0 dc0 pm0 cd0 ct0 : Value}
    (a0 : PySem.W.nsIn K mainGlobals "undone" = some (some (.ref f0)))
    (l0 : K.lookup f0 = some ⟨oc0, od0, .func (PySem.W.fnOf "undone" "undone" (defArgs S_undone) (defBody S_undone) (defScope S_undone) .none kV0 dc0 pm0 an0 cd0 ct0), sl0⟩)
    (c0 : PySem.W.codeIn K cd0 "undone" = true)
    (k0 : PySem.W.keepIn K (.ref f0) = true)
    {f1 : Addr} {od1 an1 : Option Addr} {sl1 : Array (Option Value)} {oc1 kV1 dc1 pm1 cd1 ct1 : Value}
    (a1 : PySem.W.nsIn K mainGlobals "_law_state" = some (some (.ref f1)))
    (l1 : K.lookup f1 = some ⟨oc1, od1, .func (PySem.W.fnOf "_law_state" "_law_state" (defArgs S_state) (defBody S_state) (defScope S_state) .none kV1 dc1 pm1 an1 cd1 ct1), sl1⟩)
    (c1 : PySem.W.codeIn K cd1 "_law_state" = true)
    (k1 : PySem.W.keepIn K (.ref f1) = true)
    {f2 : Addr} {od2 an2 : Option Addr} {sl2 : Array (Option Value)} {oc2 kV2 dc2 pm2 cd2 ct2 : Value}
    (a2 : PySem.W.nsIn K mainGlobals "_law_take" = some (some (.ref f2)))
    (l2 : K.lookup f2 = some ⟨oc2, od2, .func (PySem.W.fnOf "_law_take" "_law_take" (defArgs S_take) (defBody S_take) (defScope S_take) .none kV2 dc2 pm2 an2 cd2 ct2), sl2⟩)
    (c2 : PySem.W.codeIn K cd2 "_law_take" = true)
    (k2 : PySem.W.keepIn K (.ref f2) = true)
    {f3 : Addr} {od3 an3 : Option Addr} {sl3 : Array (Option Value)} {oc3 kV3 dc3 pm3 cd3 ct3 : Value}
    (a3 : PySem.W.nsIn K mainGlobals "_law_yarn" = some (some (.ref f3)))
    (l3 : K.lookup f3 = some ⟨oc3, od3, .func (PySem.W.fnOf "_law_yarn" "_law_yarn" (defArgs S_yarn) (defBody S_yarn) (defScope S_yarn) .none kV3 dc3 pm3 an3 cd3 ct3), sl3⟩)
    (c3 : PySem.W.codeIn K cd3 "_law_yarn" = true)
    (k3 : PySem.W.keepIn K (.ref f3) = true)
    {f4 : Addr} {od4 an4 : Option Addr} {sl4 : Array (Option Value)} {oc4 kV4 dc4 pm4 cd4 ct4 : Value}
    (a4 : PySem.W.nsIn K mainGlobals "_law_join" = some (some (.ref f4)))
    (l4 : K.lookup f4 = some ⟨oc4, od4, .func (PySem.W.fnOf "_law_join" "_law_join" (defArgs S_join) (defBody S_join) (defScope S_join) .none kV4 dc4 pm4 an4 cd4 ct4), sl4⟩)
    (c4 : PySem.W.codeIn K cd4 "_law_join" = true)
    (k4 : PySem.W.keepIn K (.ref f4) = true)
    {f5 : Addr} {od5 an5 : Option Addr} {sl5 : Array (Option Value)} {oc5 kV5 dc5 pm5 cd5 ct5 : Value}
    (a5 : PySem.W.nsIn K mainGlobals "_law_commands" = some (some (.ref f5)))
    (l5 : K.lookup f5 = some ⟨oc5, od5, .func (PySem.W.fnOf "_law_commands" "_law_commands" (defArgs S_commands) (defBody S_commands) (defScope S_commands) .none kV5 dc5 pm5 an5 cd5 ct5), sl5⟩)
    (c5 : PySem.W.codeIn K cd5 "_law_commands" = true)
    (k5 : PySem.W.keepIn K (.ref f5) = true)
    {f6 : Addr} {od6 an6 : Option Addr} {sl6 : Array (Option Value)} {oc6 kV6 dc6 pm6 cd6 ct6 : Value}
    (a6 : PySem.W.nsIn K mainGlobals "_law_count" = some (some (.ref f6)))
    (l6 : K.lookup f6 = some ⟨oc6, od6, .func (PySem.W.fnOf "_law_count" "_law_count" (defArgs S_count) (defBody S_count) (defScope S_count) .none kV6 dc6 pm6 an6 cd6 ct6), sl6⟩)
    (c6 : PySem.W.codeIn K cd6 "_law_count" = true)
    (k6 : PySem.W.keepIn K (.ref f6) = true)
    {f7 : Addr} {od7 an7 : Option Addr} {sl7 : Array (Option Value)} {oc7 kV7 dc7 pm7 cd7 ct7 : Value}
    (a7 : PySem.W.nsIn K mainGlobals "_law_chart" = some (some (.ref f7)))
    (l7 : K.lookup f7 = some ⟨oc7, od7, .func (PySem.W.fnOf "_law_chart" "_law_chart" (defArgs S_chart) (defBody S_chart) (defScope S_chart) .none kV7 dc7 pm7 an7 cd7 ct7), sl7⟩)
    (c7 : PySem.W.codeIn K cd7 "_law_chart" = true)
    (k7 : PySem.W.keepIn K (.ref f7) = true)
    {f8 : Addr} {od8 an8 : Option Addr} {sl8 : Array (Option Value)} {oc8 kV8 dc8 pm8 cd8 ct8 : Value}
    (a8 : PySem.W.nsIn K mainGlobals "_law_made" = some (some (.ref f8)))
    (l8 : K.lookup f8 = some ⟨oc8, od8, .func (PySem.W.fnOf "_law_made" "_law_made" (defArgs S_made) (defBody S_made) (defScope S_made) .none kV8 dc8 pm8 an8 cd8 ct8), sl8⟩)
    (c8 : PySem.W.codeIn K cd8 "_law_made" = true)
    (k8 : PySem.W.keepIn K (.ref f8) = true)
    {f9 : Addr} {od9 an9 : Option Addr} {sl9 : Array (Option Value)} {oc9 kV9 dc9 pm9 cd9 ct9 : Value}
    (a9 : PySem.W.nsIn K mainGlobals "_law_loop" = some (some (.ref f9)))
    (l9 : K.lookup f9 = some ⟨oc9, od9, .func (PySem.W.fnOf "_law_loop" "_law_loop" (defArgs S_loop) (defBody S_loop) (defScope S_loop) .none kV9 dc9 pm9 an9 cd9 ct9), sl9⟩)
    (c9 : PySem.W.codeIn K cd9 "_law_loop" = true)
    (k9 : PySem.W.keepIn K (.ref f9) = true)
    {f10 : Addr} {od10 an10 : Option Addr} {sl10 : Array (Option Value)} {oc10 kV10 dc10 pm10 cd10 ct10 : Value}
    (a10 : PySem.W.nsIn K mainGlobals "_law_taken" = some (some (.ref f10)))
    (l10 : K.lookup f10 = some ⟨oc10, od10, .func (PySem.W.fnOf "_law_taken" "_law_taken" (defArgs S_taken) (defBody S_taken) (defScope S_taken) .none kV10 dc10 pm10 an10 cd10 ct10), sl10⟩)
    (c10 : PySem.W.codeIn K cd10 "_law_taken" = true)
    (k10 : PySem.W.keepIn K (.ref f10) = true)
    {f11 : Addr} {od11 an11 : Option Addr} {sl11 : Array (Option Value)} {oc11 kV11 dc11 pm11 cd11 ct11 : Value}
    (a11 : PySem.W.nsIn K mainGlobals "_law_worked" = some (some (.ref f11)))
    (l11 : K.lookup f11 = some ⟨oc11, od11, .func (PySem.W.fnOf "_law_worked" "_law_worked" (defArgs S_worked) (defBody S_worked) (defScope S_worked) .none kV11 dc11 pm11 an11 cd11 ct11), sl11⟩)
    (c11 : PySem.W.codeIn K cd11 "_law_worked" = true)
    (k11 : PySem.W.keepIn K (.ref f11) = true)
    {f12 : Addr} {od12 an12 : Option Addr} {sl12 : Array (Option Value)} {oc12 kV12 dc12 pm12 cd12 ct12 : Value}
    (a12 : PySem.W.nsIn K mainGlobals "_law_crossed" = some (some (.ref f12)))
    (l12 : K.lookup f12 = some ⟨oc12, od12, .func (PySem.W.fnOf "_law_crossed" "_law_crossed" (defArgs S_crossed) (defBody S_crossed) (defScope S_crossed) .none kV12 dc12 pm12 an12 cd12 ct12), sl12⟩)
    (c12 : PySem.W.codeIn K cd12 "_law_crossed" = true)
    (k12 : PySem.W.keepIn K (.ref f12) = true)
    {f13 : Addr} {od13 an13 : Option Addr} {sl13 : Array (Option Value)} {oc13 kV13 dc13 pm13 cd13 ct13 : Value}
    (a13 : PySem.W.nsIn K mainGlobals "_law_moved" = some (some (.ref f13)))
    (l13 : K.lookup f13 = some ⟨oc13, od13, .func (PySem.W.fnOf "_law_moved" "_law_moved" (defArgs S_moved) (defBody S_moved) (defScope S_moved) .none kV13 dc13 pm13 an13 cd13 ct13), sl13⟩)
    (c13 : PySem.W.codeIn K cd13 "_law_moved" = true)
    (k13 : PySem.W.keepIn K (.ref f13) = true)
    {f14 : Addr} {od14 an14 : Option Addr} {sl14 : Array (Option Value)} {oc14 kV14 dc14 pm14 cd14 ct14 : Value}
    (a14 : PySem.W.nsIn K mainGlobals "_law_done" = some (some (.ref f14)))
    (l14 : K.lookup f14 = some ⟨oc14, od14, .func (PySem.W.fnOf "_law_done" "_law_done" (defArgs S_done) (defBody S_done) (defScope S_done) .none kV14 dc14 pm14 an14 cd14 ct14), sl14⟩)
    (c14 : PySem.W.codeIn K cd14 "_law_done" = true)
    (k14 : PySem.W.keepIn K (.ref f14) = true)
    {f15 : Addr} {od15 an15 : Option Addr} {sl15 : Array (Option Value)} {oc15 kV15 dc15 pm15 cd15 ct15 : Value}
    (a15 : PySem.W.nsIn K mainGlobals "_law_record" = some (some (.ref f15)))
    (l15 : K.lookup f15 = some ⟨oc15, od15, .func (PySem.W.fnOf "_law_record" "_law_record" (defArgs S_record) (defBody S_record) (defScope S_record) .none kV15 dc15 pm15 an15 cd15 ct15), sl15⟩)
    (c15 : PySem.W.codeIn K cd15 "_law_record" = true)
    (k15 : PySem.W.keepIn K (.ref f15) = true)
    {f16 : Addr} {od16 an16 : Option Addr} {sl16 : Array (Option Value)} {oc16 kV16 dc16 pm16 cd16 ct16 : Value}
    (a16 : PySem.W.nsIn K mainGlobals "_law_fabric" = some (some (.ref f16)))
    (l16 : K.lookup f16 = some ⟨oc16, od16, .func (PySem.W.fnOf "_law_fabric" "_law_fabric" (defArgs S_fabric) (defBody S_fabric) (defScope S_fabric) .none kV16 dc16 pm16 an16 cd16 ct16), sl16⟩)
    (c16 : PySem.W.codeIn K cd16 "_law_fabric" = true)
    (k16 : PySem.W.keepIn K (.ref f16) = true)
    {f17 : Addr} {od17 an17 : Option Addr} {sl17 : Array (Option Value)} {oc17 kV17 dc17 pm17 cd17 ct17 : Value}
    (a17 : PySem.W.nsIn K mainGlobals "_law_child" = some (some (.ref f17)))
    (l17 : K.lookup f17 = some ⟨oc17, od17, .func (PySem.W.fnOf "_law_child" "_law_child" (defArgs S_child) (defBody S_child) (defScope S_child) .none kV17 dc17 pm17 an17 cd17 ct17), sl17⟩)
    (c17 : PySem.W.codeIn K cd17 "_law_child" = true)
    (k17 : PySem.W.keepIn K (.ref f17) = true)
    {f18 : Addr} {od18 an18 : Option Addr} {sl18 : Array (Option Value)} {oc18 kV18 dc18 pm18 cd18 ct18 : Value}
    (a18 : PySem.W.nsIn K mainGlobals "_law_is_long_right" = some (some (.ref f18)))
    (l18 : K.lookup f18 = some ⟨oc18, od18, .func (PySem.W.fnOf "_law_is_long_right" "_law_is_long_right" (defArgs S_is_long_right) (defBody S_is_long_right) (defScope S_is_long_right) .none kV18 dc18 pm18 an18 cd18 ct18), sl18⟩)
    (c18 : PySem.W.codeIn K cd18 "_law_is_long_right" = true)
    (k18 : PySem.W.keepIn K (.ref f18) = true)
    {f19 : Addr} {od19 an19 : Option Addr} {sl19 : Array (Option Value)} {oc19 kV19 dc19 pm19 cd19 ct19 : Value}
    (a19 : PySem.W.nsIn K mainGlobals "law" = some (some (.ref f19)))
    (l19 : K.lookup f19 = some ⟨oc19, od19, .func (PySem.W.fnOf "law" "law" (defArgs S_law) (defBody S_law) (defScope S_law) .none kV19 dc19 pm19 an19 cd19 ct19), sl19⟩)
    (c19 : PySem.W.codeIn K cd19 "law" = true)
    (k19 : PySem.W.keepIn K (.ref f19) = true)
    (z_abs : PySem.W.nsIn K mainGlobals "abs" = some none)
    (z_int : PySem.W.nsIn K mainGlobals "int" = some none)
    (z_len : PySem.W.nsIn K mainGlobals "len" = some none)
    (z_list : PySem.W.nsIn K mainGlobals "list" = some none)
    (z_max : PySem.W.nsIn K mainGlobals "max" = some none)
    (z_min : PySem.W.nsIn K mainGlobals "min" = some none)
    (z_range : PySem.W.nsIn K mainGlobals "range" = some none)
    (z_repr : PySem.W.nsIn K mainGlobals "repr" = some none)
    (z_sorted : PySem.W.nsIn K mainGlobals "sorted" = some none)
    (z_sum : PySem.W.nsIn K mainGlobals "sum" = some none)
    : ∃ fd : FuncData, (∀ (s : Shared) (u : Value), BindsTo s fd ⟨[u], []⟩ [("script", u)]) ∧ ∀ base : Heap, K.In base → base.Ns mainGlobals mg → RunAt callerA l.prog w K mg base fa fd ["script"] (@spM ⟨l.prog, w⟩ K mg m_law) := by
  letI : Wd := ⟨l.prog, w⟩
  have e := hfa.symm.trans (PySem.W.mg_of X G a19)
  cases e
  have F0 := fun_mk (st := S_undone) l0 c0 k0
  have F1 := fun_mk (st := S_state) l1 c1 k1
  have F2 := fun_mk (st := S_take) l2 c2 k2
  have F3 := fun_mk (st := S_yarn) l3 c3 k3
  have F4 := fun_mk (st := S_join) l4 c4 k4
  have F5 := fun_mk (st := S_commands) l5 c5 k5
  have F6 := fun_mk (st := S_count) l6 c6 k6
  have F7 := fun_mk (st := S_chart) l7 c7 k7
  have F8 := fun_mk (st := S_made) l8 c8 k8
  have F9 := fun_mk (st := S_loop) l9 c9 k9
  have F10 := fun_mk (st := S_taken) l10 c10 k10
  have F11 := fun_mk (st := S_worked) l11 c11 k11
  have F12 := fun_mk (st := S_crossed) l12 c12 k12
  have F13 := fun_mk (st := S_moved) l13 c13 k13
  have F14 := fun_mk (st := S_done) l14 c14 k14
  have F15 := fun_mk (st := S_record) l15 c15 k15
  have F16 := fun_mk (st := S_fabric) l16 c16 k16
  have F17 := fun_mk (st := S_child) l17 c17 k17
  have F18 := fun_mk (st := S_is_long_right) l18 c18 k18
  have F19 := fun_mk (st := S_law) l19 c19 k19
  have b0 := F0.binds (ps := ["fabric"]) fun _ _ _ _ _ _ us hl => match us, hl with | [_], _ => rfl
  have b1 := F1.binds (ps := ["script"]) fun _ _ _ _ _ _ us hl => match us, hl with | [_], _ => rfl
  have b2 := F2.binds (ps := ["state", "many"]) fun _ _ _ _ _ _ us hl => match us, hl with | [_, _], _ => rfl
  have b3 := F3.binds (ps := ["state"]) fun _ _ _ _ _ _ us hl => match us, hl with | [_], _ => rfl
  have b4 := F4.binds (ps := ["state", "left"]) fun _ _ _ _ _ _ us hl => match us, hl with | [_, _], _ => rfl
  have b5 := F5.binds (ps := ["state", "count", "most"]) fun _ _ _ _ _ _ us hl => match us, hl with | [_, _, _], _ => rfl
  have b6 := F6.binds (ps := ["commands"]) fun _ _ _ _ _ _ us hl => match us, hl with | [_], _ => rfl
  have b7 := F7.binds (ps := ["state", "most", "lines"]) fun _ _ _ _ _ _ us hl => match us, hl with | [_, _, _], _ => rfl
  have b8 := F8.binds (ps := ["made", "yarn"]) fun _ _ _ _ _ _ us hl => match us, hl with | [_, _], _ => rfl
  have b9 := F9.binds (ps := ["command", "taken"]) fun _ _ _ _ _ _ us hl => match us, hl with | [_, _], _ => rfl
  have b10 := F10.binds (ps := ["command"]) fun _ _ _ _ _ _ us hl => match us, hl with | [_], _ => rfl
  have b11 := F11.binds (ps := ["world", "direction", "commands"]) fun _ _ _ _ _ _ us hl => match us, hl with | [_, _, _], _ => rfl
  have b12 := F12.binds (ps := ["crossings", "over", "under"]) fun _ _ _ _ _ _ us hl => match us, hl with | [_, _, _], _ => rfl
  have b13 := F13.binds (ps := ["world", "exchanges"]) fun _ _ _ _ _ _ us hl => match us, hl with | [_, _], _ => rfl
  have b14 := F14.binds (ps := ["chart"]) fun _ _ _ _ _ _ us hl => match us, hl with | [_], _ => rfl
  have b15 := F15.binds (ps := ["loops", "crossings", "resting", "dropped"]) fun _ _ _ _ _ _ us hl => match us, hl with | [_, _, _, _], _ => rfl
  have b16 := F16.binds (ps := ["chart"]) fun _ _ _ _ _ _ us hl => match us, hl with | [_], _ => rfl
  have b17 := F17.binds (ps := ["fabric", "name"]) fun _ _ _ _ _ _ us hl => match us, hl with | [_, _], _ => rfl
  have b18 := F18.binds (ps := ["state"]) fun _ _ _ _ _ _ us hl => match us, hl with | [_], _ => rfl
  have z_abs := PySem.W.mg_none_of X G z_abs
  have z_int := PySem.W.mg_none_of X G z_int
  have z_len := PySem.W.mg_none_of X G z_len
  have z_list := PySem.W.mg_none_of X G z_list
  have z_max := PySem.W.mg_none_of X G z_max
  have z_min := PySem.W.mg_none_of X G z_min
  have z_range := PySem.W.mg_none_of X G z_range
  have z_repr := PySem.W.mg_none_of X G z_repr
  have z_sorted := PySem.W.mg_none_of X G z_sorted
  have z_sum := PySem.W.mg_none_of X G z_sum
  refine ⟨PySem.W.fnOf "law" "law" (defArgs S_law) (defBody S_law) (defScope S_law) .none kV19 dc19 pm19 an19 cd19 ct19, fun s v => .of_eq rfl, fun base _ _ => ?_⟩
  have h_undone := has_undone (P := l.prog) (w := w) (base := base) F0 (PySem.W.mg_of X G a0) b0 z_list z_sorted ⟨rfl, rfl⟩
  have h_state := has_state (P := l.prog) (w := w) (base := base) F1 (PySem.W.mg_of X G a1) b1 z_abs z_int z_len ⟨rfl, rfl⟩
  have h_take := has_take (P := l.prog) (w := w) (base := base) F2 (PySem.W.mg_of X G a2) b2 z_abs z_int z_len ⟨rfl, rfl⟩
  have h_yarn := has_yarn (P := l.prog) (w := w) (base := base) F3 (PySem.W.mg_of X G a3) b3 h_take ⟨rfl, rfl⟩
  have h_join := has_join (P := l.prog) (w := w) (base := base) F4 (PySem.W.mg_of X G a4) b4 h_take h_yarn z_min ⟨rfl, rfl⟩
  have h_commands := has_commands (P := l.prog) (w := w) (base := base) F5 (PySem.W.mg_of X G a5) b5 h_take h_yarn h_join z_int z_range ⟨rfl, rfl⟩
  have h_count := has_count (P := l.prog) (w := w) (base := base) F6 (PySem.W.mg_of X G a6) b6 z_int z_sum ⟨rfl, rfl⟩
  have h_chart := has_chart (P := l.prog) (w := w) (base := base) F7 (PySem.W.mg_of X G a7) b7 h_take h_yarn h_commands h_count z_len z_range ⟨rfl, rfl⟩
  have h_made := has_made (P := l.prog) (w := w) (base := base) F8 (PySem.W.mg_of X G a8) b8  ⟨rfl, rfl⟩
  have h_loop := has_loop (P := l.prog) (w := w) (base := base) F9 (PySem.W.mg_of X G a9) b9 z_list ⟨rfl, rfl⟩
  have h_taken := has_taken (P := l.prog) (w := w) (base := base) F10 (PySem.W.mg_of X G a10) b10 z_int ⟨rfl, rfl⟩
  have h_worked := has_worked (P := l.prog) (w := w) (base := base) F11 (PySem.W.mg_of X G a11) b11 h_made h_loop h_taken z_len z_list z_range z_sum ⟨rfl, rfl⟩
  have h_crossed := has_crossed (P := l.prog) (w := w) (base := base) F12 (PySem.W.mg_of X G a12) b12 z_max z_min ⟨rfl, rfl⟩
  have h_moved := has_moved (P := l.prog) (w := w) (base := base) F13 (PySem.W.mg_of X G a13) b13 h_crossed z_list ⟨rfl, rfl⟩
  have h_done := has_done (P := l.prog) (w := w) (base := base) F14 (PySem.W.mg_of X G a14) b14 h_worked h_moved ⟨rfl, rfl⟩
  have h_record := has_record (P := l.prog) (w := w) (base := base) F15 (PySem.W.mg_of X G a15) b15 z_sorted ⟨rfl, rfl⟩
  have h_fabric := has_fabric (P := l.prog) (w := w) (base := base) F16 (PySem.W.mg_of X G a16) b16 h_done h_record ⟨rfl, rfl⟩
  have h_child := has_child (P := l.prog) (w := w) (base := base) F17 (PySem.W.mg_of X G a17) b17  ⟨rfl, rfl⟩
  have h_is_long_right := has_is_long_right (P := l.prog) (w := w) (base := base) F18 (PySem.W.mg_of X G a18) b18 h_undone h_take h_fabric z_range z_repr ⟨rfl, rfl⟩
  exact run_law (P := l.prog) (w := w) F19 h_undone h_state h_take h_chart h_done h_fabric h_child h_is_long_right z_len z_range z_repr ⟨rfl, rfl⟩
end K04
open PySem PySem.W PyProof.Rows
set_option maxHeartbeats 0 in
theorem PySem.Challenge.cw_heldloops_k04_loops_that_come_undone_holds : PySem.Challenge.rw_heldloops_k04_loops_that_come_undone.Holds := by
  w_on; o_law; k_head; (case hw => w_witness2)
  k_fill
  refine Sh.end_of (l := PySem.Challenge.rw_heldloops_k04_loops_that_come_undone) (n := 63) (x := "script") (f := K04.m_law) rfl (by decide) rfl (fun w h Y => PySem.W.kIn_of Y) ?F K04.law_true0
  case F =>
    intro w mg fa h KX G hmg
    refine' K04.all_mk KX G hmg ?a0 ?l0 ?c0 ?k0 ?a1 ?l1 ?c1 ?k1 ?a2 ?l2 ?c2 ?k2 ?a3 ?l3 ?c3 ?k3 ?a4 ?l4 ?c4 ?k4 ?a5 ?l5 ?c5 ?k5 ?a6 ?l6 ?c6 ?k6 ?a7 ?l7 ?c7 ?k7 ?a8 ?l8 ?c8 ?k8 ?a9 ?l9 ?c9 ?k9 ?a10 ?l10 ?c10 ?k10 ?a11 ?l11 ?c11 ?k11 ?a12 ?l12 ?c12 ?k12 ?a13 ?l13 ?c13 ?k13 ?a14 ?l14 ?c14 ?k14 ?a15 ?l15 ?c15 ?k15 ?a16 ?l16 ?c16 ?k16 ?a17 ?l17 ?c17 ?k17 ?a18 ?l18 ?c18 ?k18 ?a19 ?l19 ?c19 ?k19 ?z_abs ?z_int ?z_len ?z_list ?z_max ?z_min ?z_range ?z_repr ?z_sorted ?z_sum
    (case a0 => k_is)
    (case l0 => k_is)
    (case c0 => k_is)
    (case k0 => k_is)
    (case a1 => k_is)
    (case l1 => k_is)
    (case c1 => k_is)
    (case k1 => k_is)
    (case a2 => k_is)
    (case l2 => k_is)
    (case c2 => k_is)
    (case k2 => k_is)
    (case a3 => k_is)
    (case l3 => k_is)
    (case c3 => k_is)
    (case k3 => k_is)
    (case a4 => k_is)
    (case l4 => k_is)
    (case c4 => k_is)
    (case k4 => k_is)
    (case a5 => k_is)
    (case l5 => k_is)
    (case c5 => k_is)
    (case k5 => k_is)
    (case a6 => k_is)
    (case l6 => k_is)
    (case c6 => k_is)
    (case k6 => k_is)
    (case a7 => k_is)
    (case l7 => k_is)
    (case c7 => k_is)
    (case k7 => k_is)
    (case a8 => k_is)
    (case l8 => k_is)
    (case c8 => k_is)
    (case k8 => k_is)
    (case a9 => k_is)
    (case l9 => k_is)
    (case c9 => k_is)
    (case k9 => k_is)
    (case a10 => k_is)
    (case l10 => k_is)
    (case c10 => k_is)
    (case k10 => k_is)
    (case a11 => k_is)
    (case l11 => k_is)
    (case c11 => k_is)
    (case k11 => k_is)
    (case a12 => k_is)
    (case l12 => k_is)
    (case c12 => k_is)
    (case k12 => k_is)
    (case a13 => k_is)
    (case l13 => k_is)
    (case c13 => k_is)
    (case k13 => k_is)
    (case a14 => k_is)
    (case l14 => k_is)
    (case c14 => k_is)
    (case k14 => k_is)
    (case a15 => k_is)
    (case l15 => k_is)
    (case c15 => k_is)
    (case k15 => k_is)
    (case a16 => k_is)
    (case l16 => k_is)
    (case c16 => k_is)
    (case k16 => k_is)
    (case a17 => k_is)
    (case l17 => k_is)
    (case c17 => k_is)
    (case k17 => k_is)
    (case a18 => k_is)
    (case l18 => k_is)
    (case c18 => k_is)
    (case k18 => k_is)
    (case a19 => k_is)
    (case l19 => k_is)
    (case c19 => k_is)
    (case k19 => k_is)
    (case z_abs => k_is)
    (case z_int => k_is)
    (case z_len => k_is)
    (case z_list => k_is)
    (case z_max => k_is)
    (case z_min => k_is)
    (case z_range => k_is)
    (case z_repr => k_is)
    (case z_sorted => k_is)
    (case z_sum => k_is)
