import PyProof.Rows.All
import Wide.All
import OpenK.AllK
import Wide.FinOn
import PyProof.EqAt
import PyProof.EqKinds
import PyProof.TupleCall
import KE.BitLaws
import PyProof.Rows.SortShellAny
import PyProof.ReprReads
import PyProof.WalksEnum
import KE.KRevSl
import KE.KRegrown
import PyProof.GenCompD
import PyProof.Rows.SumGenA
import PyProof.Rows.ZipGen
import KE.KItemsList
import PyProof.ListRange
import KE.KSortTupUse
import PyProof.WalkInts
import PySem.Challenge.RW_stretchleast_k52_whole_growing_rows_apar
set_option Elab.async false
set_option linter.all false
set_option maxRecDepth 100000
namespace L2
open PySem PySem.Spec PyProof.Rows

/-- a key: an int or a str -/
abbrev Key := Sum Int Str
def keyIs : Key → Value → Bool
  | .inl k, v => Value.isInt k v
  | .inr x, v => Value.isStrOf x v
def keyH (w : World) : Key → Int
  | .inl k => hashInt k
  | .inr x => hashStr w x
theorem keyIs_shape : ∀ {k : Key} {v : Value}, keyIs k v = true → (∃ i t, k = Sum.inl i ∧ v = Value.int i t) ∨ (∃ x t, k = Sum.inr x ∧ v = Value.str x t)
  | .inl i, v, h => by
    obtain ⟨t, e⟩ := Value.isInt_shape (k := i) (v := v) h
    exact .inl ⟨i, t, rfl, e⟩
  | .inr x, v, h => by
    obtain ⟨t, e⟩ := Value.isStrOf_shape (x := x) (v := v) h
    exact .inr ⟨x, t, rfl, e⟩
theorem key_ll (a b : Int) : decide ((Sum.inl a : Key) = Sum.inl b) = (a == b) := by
  by_cases e : a = b
  · subst e; simp
  · have h : ¬ (Sum.inl a : Key) = Sum.inl b := fun q => e (Sum.inl.inj q)
    rw [decide_eq_false h]
    exact (beq_eq_false_iff_ne.mpr e).symm
theorem key_rr (a b : Str) : decide ((Sum.inr a : Key) = Sum.inr b) = decide (a = b) := by
  by_cases e : a = b
  · subst e; simp
  · have h : ¬ (Sum.inr a : Key) = Sum.inr b := fun q => e (Sum.inr.inj q)
    rw [decide_eq_false h, decide_eq_false e]
theorem key_lr (a : Int) (b : Str) : decide ((Sum.inl a : Key) = Sum.inr b) = false := decide_eq_false (fun q => nomatch q)
theorem key_rl (a : Str) (b : Int) : decide ((Sum.inr a : Key) = Sum.inl b) = false := decide_eq_false (fun q => nomatch q)

def mixKind (prog : Program) (w : World) : PySem.KeyKind prog w Key where
  is := keyIs
  hash := keyH w
  inj := fun v a b ha hb => by
    rcases keyIs_shape ha with ⟨i, t, rfl, rfl⟩ | ⟨x, t, rfl, rfl⟩
    · rcases keyIs_shape hb with ⟨j, u, rfl, e⟩ | ⟨y, u, rfl, e⟩
      · injection e with e1 _; rw [e1]
      · exact nomatch e
    · rcases keyIs_shape hb with ⟨j, u, rfl, e⟩ | ⟨y, u, rfl, e⟩
      · exact nomatch e
      · injection e with e1 _; rw [e1]
  byValue := fun k v h => by
    rcases keyIs_shape h with ⟨i, t, rfl, rfl⟩ | ⟨x, t, rfl, rfl⟩ <;> rfl
  pyHash := fun hv h => by
    rcases keyIs_shape hv with ⟨i, t, rfl, rfl⟩ | ⟨x, t, rfl, rfl⟩
    · exact wpAny_pyHash_int h
    · exact wpAny_pyHash_str h
  eqBool := fun hu hv h => by
    rcases keyIs_shape hu with ⟨i, t, rfl, rfl⟩ | ⟨x, t, rfl, rfl⟩
    · rcases keyIs_shape hv with ⟨j, u, rfl, rfl⟩ | ⟨y, u, rfl, rfl⟩
      · rw [key_ll] at h; exact wpAny_eqBool_int h
      · rw [key_lr] at h; exact SeqAt.EqAt.int_str i t y u _ _ _ _ h
    · rcases keyIs_shape hv with ⟨j, u, rfl, rfl⟩ | ⟨y, u, rfl, rfl⟩
      · rw [key_rl] at h; exact SeqAt.EqAt.str_int x t j u _ _ _ _ h
      · rw [key_rr] at h; exact wpAny_eqBool_str h
  «strs» := fun k x t v h => by
    rcases keyIs_shape h with ⟨i, u, rfl, e⟩ | ⟨y, u, rfl, e⟩
    · exact nomatch e
    · injection e with e1 _
      subst e1
      cases v <;> rfl

end L2

namespace L2
open PySem PySem.Spec PyProof.Rows

/-- a value, without the heap -/
inductive V where
  | non | bl (b : Bool) | int (i : Int) | str (x : Str) | byt (b : Array UInt8) | flt (b : UInt64) | ref (a : Addr) | ty (n : String)
  deriving DecidableEq

def RelV : V → Value → Prop
  | .non, u => u = Value.none
  | .bl b, u => u = Value.bool b
  | .int i, u => ∃ t, u = Value.int i t
  | .str x, u => ∃ t, u = Value.str x t
  | .byt b, u => ∃ t, u = Value.bytes b t
  | .flt b, u => ∃ t, u = Value.float b t
  | .ref a, u => u = Value.ref a
  | .ty n, u => u = Value.type n

abbrev Vals : List V → List Value → Prop := Paired RelV
theorem Vals.length {xs : List V} {us : List Value} (r : Vals xs us) : xs.length = us.length := Paired.length r
theorem Vals.get : ∀ {xs : List V} {us : List Value} {i : Nat} {x : V}, Vals xs us → xs[i]? = some x → ∃ u, us[i]? = some u ∧ RelV x u
  | _, _, _, _, .nil, e => by simp at e
  | _, _, 0, _, .cons r _, e => by simp at e; subst e; exact ⟨_, rfl, r⟩
  | _, _, i + 1, x, .cons _ t, e => by
    obtain ⟨u, h1, h2⟩ := Vals.get (i := i) (x := x) t (by simpa using e)
    exact ⟨u, by simpa using h1, h2⟩
theorem Vals.set {x : V} {u : Value} (r : RelV x u) : ∀ {xs : List V} {us : List Value} (i : Nat), Vals xs us → Vals (xs.set i x) (us.set i u)
  | _, _, _, .nil => .nil
  | _, _, 0, .cons _ t => .cons r t
  | _, _, i + 1, .cons q t => .cons q (Vals.set r i t)
theorem Vals.append : ∀ {xs ys : List V} {us ws : List Value}, Vals xs us → Vals ys ws → Vals (xs ++ ys) (us ++ ws)
  | _, _, _, _, .nil, s => s
  | _, _, _, _, .cons r t, s => .cons r (Vals.append t s)
theorem Vals.take : ∀ {xs : List V} {us : List Value} (n : Nat), Vals xs us → Vals (xs.take n) (us.take n)
  | _, _, 0, _ => .nil
  | _, _, _ + 1, .nil => .nil
  | _, _, n + 1, .cons r t => .cons r (Vals.take n t)
theorem Vals.drop : ∀ {xs : List V} {us : List Value} (n : Nat), Vals xs us → Vals (xs.drop n) (us.drop n)
  | _, _, 0, r => r
  | _, _, _ + 1, .nil => .nil
  | _, _, n + 1, .cons _ t => Vals.drop n t
theorem Vals.none_of : ∀ {xs : List V} {us : List Value} {i : Nat}, Vals xs us → xs[i]? = none → us[i]? = none := fun {xs us i} r e => by
  have h1 := r.length
  have h2 : xs.length ≤ i := List.getElem?_eq_none_iff.mp e
  exact List.getElem?_eq_none_iff.mpr (by omega)

def RelO : Option V → Option Value → Prop
  | some v, some u => RelV v u
  | none, none => True
  | _, _ => False
def KV {κ : Type} : List (κ × V) → List (κ × Value) → Prop := Paired fun (p : κ × V) (q : κ × Value) => p.1 = q.1 ∧ RelV p.2 q.2

/-- a key of a dict (00_mix): an int or a text -/
def kV : Key → V
  | .inl i => .int i
  | .inr x => .str x

/-- what stands at a tracked address -/
inductive HO where
  /-- a list -/
  | lst (xs : List V)
  /-- a tuple (never changes) -/
  | tup (xs : List V)
  /-- a dict whose keys are ints and texts; one whose keys are tuples of ints and texts (the empty one is both) -/
  | dK (kvs : List (Key × V)) | dT (kvs : List (List Key × V))
  /-- a set of ints: its members, its size -/
  | set (S : Int → Bool) (n : Nat)
  /-- an instance of the class at C, its dict at dx, its attributes -/
  | ins (C dx : Addr) (fs : List (Str × V))
  /-- the dict of the instance at x -/
  | own (x : Addr)
  /-- the dict of an exception -/
  | xd (fs : List (Str × V))
  /-- a bound method, f of x -/
  | met (f x : Addr)
  /-- a range object lo, lo + 1, .. below hi -/
  | rng (lo hi : Int)
  /-- a thing that is known to the object (the script; a dict while a loop walks it): read, never written while it is so -/
  | frz (o : Obj) (u : HO)
  /-- a code object's table -/
  | tbl (ps : Array Value)
  /-- any other thing, by what is true of its one object (a def of one's own: SetO a S n := HO.ext fun h => ..) -/
  | ext (φ : Heap → Prop)

abbrev Hp := Addr → Option HO
def upd (H : Hp) (a : Addr) (o : HO) : Hp := fun b => if b = a then some o else H b
theorem upd_same {H : Hp} {a : Addr} {o : HO} : upd H a o a = some o := by unfold upd; rw [if_pos rfl]
theorem upd_ne {H : Hp} {a b : Addr} {o : HO} (h : b ≠ a) : upd H a o b = H b := by unfold upd; rw [if_neg h]
theorem ne_of_none {H : Hp} {a b : Addr} {o : HO} (h : H a = some o) (h' : H b = none) : a ≠ b := by
  intro e; subst e; rw [h] at h'; cases h'

section
variable (P : Program) (w : World)
def ObjOk (H : Hp) (h : Heap) (a : Addr) : HO → Prop
  | .lst xs => xs.length ≤ sizeLine ∧ ∃ (its : List Value) (n : Nat), Vals xs its ∧ h.get? a = some { cls := .type "list", data := .seq its.toArray n }
  | .tup xs => xs.length ≤ sizeLine ∧ ∃ its : List Value, Vals xs its ∧ IsTup h a its.toArray
  | .dK kvs => kvs.length ≤ sizeLine ∧ (a == sysModules) = false ∧ ∃ vs, KV kvs vs ∧ h.DictOf (mixKind P w) a vs
  | .dT kvs => kvs.length ≤ sizeLine ∧ (a == sysModules) = false ∧ ∃ xs : List (List Key × Addr × Value),
      Paired (fun (p : List Key × V) (q : List Key × Addr × Value) => p.1 = q.1 ∧ H q.2.1 = some (.tup (p.1.map kV)) ∧ RelV p.2 q.2.2) kvs xs ∧
      ∃ o es ep, h.get? a = some o ∧ o.ExactDict ∧ o.data = .dict es ep ∧ es.toList = xs.map (entryOfKey (tupleKind (mixKind P w))) ∧ (xs.map (·.1)).Nodup
  | .set S n => h.SetOf (intKind P w) a S n
  | .ins C dx fs => H dx = some (.own a) ∧ fs.length ≤ 1000 ∧ dx ≠ a ∧ h.get? a = some (PySem.W.instObj C dx) ∧
      ∃ mA, h.Ns1 dx mA ∧ (∀ f, RelO (fs.lookup f) (mA f)) ∧ PySem.Within mA (fs.map (·.1))
  | .own _ => ∃ o, h.get? a = some o
  | .xd fs => ∃ mA, h.Ns1 a mA ∧ ∀ f, RelO (fs.lookup f) (mA f)
  | .rng lo hi => ∃ t u v, h.get? a = some { cls := .type "range", data := .fields #[.int lo t, .int hi u, .int 1 v] }
  | .frz o u => h.get? a = some o ∧ ObjOk H h a u
  | .tbl ps => h.get? a = some { cls := .none, data := .fields ps } ∧ TriplesOk ps.toList
  | .met f x => h.get? a = some (PySem.W.methodObj (.ref f) (.ref x))
  | .ext φ => φ h ∧ (∃ o, h.get? a = some o) ∧ ∀ h1 h2 : Heap, φ h1 → (∀ o, h1.get? a = some o → h2.get? a = some o) → φ h2
/-- the abstract heap is held -/
def HOk (H : Hp) (h : Heap) : Prop := ∀ a o, H a = some o → ObjOk P w H h a o
end

section
variable {P : Program} {w : World} {H H' : Hp} {h h' : Heap} {a : Addr} {o : HO}
theorem ObjOk.lt (x : ObjOk P w H h a o) : a < h.objs.size := by
  cases o with
  | lst xs => obtain ⟨_, _, _, _, e⟩ := x; exact Heap.lt_size e
  | tup xs => obtain ⟨_, _, _, p⟩ := x; exact p.lt
  | dK kvs => obtain ⟨_, _, _, _, o, _, _, e, _⟩ := x; exact Heap.lt_size e
  | dT kvs => obtain ⟨_, _, _, _, o, _, _, e, _⟩ := x; exact Heap.lt_size e
  | set S n => obtain ⟨o, _, _, _, e, _⟩ := x; exact Heap.lt_size e
  | ins C dx fs => obtain ⟨_, _, _, e, _⟩ := x; exact Heap.lt_size e
  | own y => obtain ⟨_, e⟩ := x; exact Heap.lt_size e
  | xd fs => obtain ⟨_, ⟨_, _, _, e, _⟩, _⟩ := x; exact Heap.lt_size e
  | rng lo hi => obtain ⟨_, _, _, e⟩ := x; exact Heap.lt_size e
  | frz ob u => obtain ⟨e, _⟩ := x; exact Heap.lt_size e
  | tbl ps => exact Heap.lt_size (show h.get? a = some _ from (show _ ∧ _ from x).1)
  | met f y => exact Heap.lt_size (show h.get? a = some _ from x)
  | ext φ => obtain ⟨_, ⟨_, e⟩, _⟩ := x; exact Heap.lt_size e
theorem Paired.mapP {α β : Type} {F G : α → β → Prop} : ∀ {l₁ : List α} {l₂ : List β}, Paired F l₁ l₂ → (∀ a b, F a b → G a b) → Paired G l₁ l₂
  | _, _, .nil, _ => .nil
  | _, _, .cons r t, f => .cons (f _ _ r) (Paired.mapP t f)
/-- what an object's description leans on: its own object, its own dict, the tuples -/
theorem ObjOk.stay (x : ObjOk P w H h a o) (k : ∀ b u, (b = a ∨ H b = some (.own a)) → h.get? b = some u → h'.get? b = some u)
    (ho : ∀ b, H b = some (.own a) → H' b = some (.own a)) (ht : ∀ b xs, H b = some (.tup xs) → H' b = some (.tup xs)) : ObjOk P w H' h' a o := by
  induction o with
  | lst xs => obtain ⟨z, its, n, r, e⟩ := x; exact ⟨z, its, n, r, k _ _ (.inl rfl) e⟩
  | tup xs => obtain ⟨z, its, r, ob, e, c⟩ := x; exact ⟨z, its, r, ob, k _ _ (.inl rfl) e, c⟩
  | dK kvs => obtain ⟨z, y, vs, r, ob, es, ep, e, c⟩ := x; exact ⟨z, y, vs, r, ob, es, ep, k _ _ (.inl rfl) e, c⟩
  | dT kvs =>
    obtain ⟨z, y, xs, r, ob, es, ep, e, c⟩ := x
    exact ⟨z, y, xs, Paired.mapP r fun p q z => ⟨z.1, ht _ _ z.2.1, z.2.2⟩, ob, es, ep, k _ _ (.inl rfl) e, c⟩
  | set S n => obtain ⟨ob, es, ep, t, e, c⟩ := x; exact ⟨ob, es, ep, t, k _ _ (.inl rfl) e, c⟩
  | ins C dx fs =>
    obtain ⟨d, z, ne, e, mA, ⟨od, es, ep, e2, c⟩, r⟩ := x
    exact ⟨ho _ d, z, ne, k _ _ (.inl rfl) e, mA, ⟨od, es, ep, k _ _ (.inr d) e2, c⟩, r⟩
  | own y => obtain ⟨ob, e⟩ := x; exact ⟨ob, k _ _ (.inl rfl) e⟩
  | xd fs => obtain ⟨mA, ⟨od, es, ep, e, c⟩, r⟩ := x; exact ⟨mA, ⟨od, es, ep, k _ _ (.inl rfl) e, c⟩, r⟩
  | rng lo hi => obtain ⟨t, u, v, e⟩ := x; exact ⟨t, u, v, k _ _ (.inl rfl) e⟩
  | frz ob u ih => obtain ⟨e, q⟩ := x; exact ⟨k _ _ (.inl rfl) e, ih q⟩
  | tbl ps =>
    have e : h.get? a = some { cls := .none, data := .fields ps } ∧ TriplesOk ps.toList := x
    show h'.get? a = some { cls := .none, data := .fields ps } ∧ TriplesOk ps.toList
    exact ⟨k a _ (.inl rfl) e.1, e.2⟩
  | met f y =>
    have e : h.get? a = some (PySem.W.methodObj (.ref f) (.ref y)) := x
    show h'.get? a = some (PySem.W.methodObj (.ref f) (.ref y))
    exact k a _ (.inl rfl) e
  | ext φ => obtain ⟨p, ⟨o, e⟩, st⟩ := x; exact ⟨st _ _ p fun o q => k _ _ (.inl rfl) q, ⟨o, k _ _ (.inl rfl) e⟩, st⟩
theorem HOk.lt (x : HOk P w H h) (e : H a = some o) : a < h.objs.size := (x a o e).lt
theorem HOk.fresh (x : HOk P w H h) (e : h.objs.size ≤ a) : H a = none := by
  cases q : H a with
  | none => rfl
  | some u => exact absurd (Nat.lt_of_lt_of_le (x.lt q) e) (Nat.lt_irrefl _)
/-- every object of the heap is kept -/
theorem HOk.kept (x : HOk P w H h) (k : ∀ b u, h.get? b = some u → h'.get? b = some u) : HOk P w H h' := fun a o e =>
  (x a o e).stay (fun b u _ q => k b u q) (fun _ q => q) fun _ _ q => q
/-- a new object is laid and tracked -/
theorem HOk.laid (x : HOk P w H h) (k : ∀ b u, h.get? b = some u → h'.get? b = some u) (hp : h.objs.size ≤ a) (new : ObjOk P w (upd H a o) h' a o) : HOk P w (upd H a o) h' := fun b u e => by
  have hn := x.fresh hp
  by_cases hb : b = a
  · subst hb; rw [upd_same] at e; cases e; exact new
  · rw [upd_ne hb] at e
    exact (x b u e).stay (fun c v _ q => k c v q) (fun c q => by rw [upd_ne (ne_of_none q hn)]; exact q) fun c xs q => by rw [upd_ne (ne_of_none q hn)]; exact q
end

/-- what may be read as u: it is u, or a known u -/
def Rd (H : Hp) (a : Addr) (u : HO) : Prop := H a = some u ∨ ∃ o, H a = some (.frz o u)
theorem Rd.of {H : Hp} {a : Addr} {u : HO} (h : H a = some u) : Rd H a u := .inl h
theorem Rd.ok {P : Program} {w : World} {H : Hp} {h : Heap} {a : Addr} {u : HO} (r : Rd H a u) (x : HOk P w H h) : ObjOk P w H h a u := by
  rcases r with r | ⟨o, r⟩
  · exact x a u r
  · obtain ⟨_, q⟩ := x a _ r
    exact q
/-- what may be written -/
def Mut : Option HO → Prop
  | some (.lst _) => True
  | some (.dK _) => True
  | some (.dT _) => True
  | some (.set _ _) => True
  | some (.ins _ _ _) => True
  | some (.ext _) => True
  | _ => False
section
variable {P : Program} {w : World} {H : Hp} {h h' : Heap} {x e : Addr} {o' : HO}
/-- the object at e is changed: x itself, or the dict of the instance x -/
theorem HOk.write (ok : HOk P w H h) (mu : Mut (H x)) (he : e = x ∨ H e = some (.own x)) (k : ∀ b u, b ≠ e → h.get? b = some u → h'.get? b = some u) (heo : ∃ u, h'.get? e = some u)
    (new : ObjOk P w (upd H x o') h' x o') : HOk P w (upd H x o') h' := fun b u q => by
  have nown : ∀ c y, H c = some (.own y) → c ≠ x := fun c y r z => by subst z; rw [r] at mu; exact mu
  have ntup : ∀ c xs, H c = some (.tup xs) → c ≠ x := fun c xs r z => by subst z; rw [r] at mu; exact mu
  by_cases hb : b = x
  · subst hb; rw [upd_same] at q; cases q; exact new
  · rw [upd_ne hb] at q
    by_cases hbe : b = e
    · have q' : H b = some (.own x) := by
        rcases he with z | z
        · exact absurd (hbe.trans z) hb
        · rw [hbe]; exact z
      rw [q] at q'; cases q'
      obtain ⟨v, hv⟩ := heo
      exact ⟨v, by rw [hbe]; exact hv⟩
    · refine (ok b u q).stay (fun c v hc r => k c v ?_ r) (fun c r => by rw [upd_ne (nown c b r)]; exact r) fun c xs r => by rw [upd_ne (ntup c xs r)]; exact r
      rcases hc with rfl | hc
      · exact hbe
      · rintro rfl
        rcases he with z | z
        · exact nown c b hc z
        · rw [hc] at z; cases z; exact hb rfl
end

structure Un (fs ex : List Addr) (H H' : Hp) (h h' : Heap) : Prop where
  keep : ∀ b o, h.get? b = some o → H b = none → b ∉ fs → b ∉ ex → h'.get? b = some o
  slot : ∀ b o, h.get? b = some o → H b = none → b ∈ fs → b ∉ ex → ∃ sl, h'.get? b = some { o with slots := sl }
  free : ∀ b o, h.get? b = some o → H b = none → b ∉ ex → H' b = none
  there : ∀ b o, h.get? b = some o → b ∉ ex → ∃ o', h'.get? b = some o'
  tups : ∀ b xs, H b = some (.tup xs) → H' b = some (.tup xs)
  frzs : ∀ b o u, H b = some (.frz o u) → H' b = some (.frz o u)
  tbls : ∀ b ps, H b = some (.tbl ps) → ∃ more, H' b = some (.tbl (ps ++ more))
section
variable {fs fs' ex ex' : List Addr} {H H1 H2 : Hp} {h h1 h2 h' : Heap} {a x e : Addr} {o : HO}
theorem Un.any (u : Un fs ex H H1 h h1) {b : Addr} {ob : Obj} (q : h.get? b = some ob) (n : H b = none) (hx : b ∉ ex) : ∃ sl, h1.get? b = some { ob with slots := sl } := by
  by_cases hb : b ∈ fs
  · exact u.slot b ob q n hb hx
  · exact ⟨ob.slots, u.keep b ob q n hb hx⟩
theorem Un.trans (a : Un fs ex H H1 h h1) (b : Un fs ex H1 H2 h1 h2) : Un fs ex H H2 h h2 where
  keep := fun c ob q n hc hx => b.keep c ob (a.keep c ob q n hc hx) (a.free c ob q n hx) hc hx
  slot := fun c ob q n hc hx => by
    obtain ⟨sl, e1⟩ := a.slot c ob q n hc hx
    obtain ⟨sl', e2⟩ := b.slot c _ e1 (a.free c ob q n hx) hc hx
    exact ⟨sl', e2⟩
  free := fun c ob q n hx => by
    obtain ⟨o', e1⟩ := a.there c ob q hx
    exact b.free c o' e1 (a.free c ob q n hx) hx
  there := fun c ob q hx => by
    obtain ⟨o', e1⟩ := a.there c ob q hx
    exact b.there c o' e1 hx
  tups := fun c xs q => b.tups c xs (a.tups c xs q)
  frzs := fun c ob xs q => b.frzs c ob xs (a.frzs c ob xs q)
  tbls := fun c ps q => by
    obtain ⟨m1, e1⟩ := a.tbls c ps q
    obtain ⟨m2, e2⟩ := b.tbls c _ e1
    exact ⟨m1 ++ m2, by rw [e2, Array.append_assoc]⟩
theorem Un.kept (k : ∀ b u, h.get? b = some u → h'.get? b = some u) : Un fs ex H H h h' :=
  ⟨fun b ob q _ _ _ => k b ob q, fun b ob q _ _ _ => ⟨ob.slots, k b ob q⟩, fun _ _ _ n _ => n, fun b ob q _ => ⟨ob, k b ob q⟩, fun _ _ q => q, fun _ _ _ q => q, fun _ ps q => ⟨#[], by rw [q]; simp⟩⟩
theorem Un.refl : Un fs ex H H h h := Un.kept fun _ _ q => q
theorem Un.laid (k : ∀ b u, h.get? b = some u → h'.get? b = some u) (hp : h.objs.size ≤ a) (hn : H a = none) : Un fs ex H (upd H a o) h h' where
  keep := fun b u q _ _ _ => k b u q
  slot := fun b u q _ _ _ => ⟨u.slots, k b u q⟩
  free := fun b u q n _ => by rw [upd_ne (Nat.ne_of_lt (Nat.lt_of_lt_of_le (Heap.lt_size q) hp))]; exact n
  there := fun b u q _ => ⟨u, k b u q⟩
  tups := fun b xs q => by rw [upd_ne (ne_of_none q hn)]; exact q
  frzs := fun b u xs q => by rw [upd_ne (ne_of_none q hn)]; exact q
  tbls := fun b ps q => ⟨#[], by rw [upd_ne (ne_of_none q hn), q]; simp⟩
theorem Un.write (mu : Mut (H x)) (he : e = x ∨ H e = some (.own x)) (k : ∀ b u, b ≠ e → h.get? b = some u → h'.get? b = some u) (heo : ∃ u, h'.get? e = some u) : Un fs ex H (upd H x o) h h' := by
  have hx : ∀ b, H b = none → b ≠ x := fun b n z => by subst z; rw [n] at mu; exact mu
  have hb : ∀ b, H b = none → b ≠ e := fun b n z => by
    subst z
    rcases he with r | r
    · exact hx b n r
    · rw [n] at r; cases r
  have hm : ∀ b u, H b = some u → ¬ Mut (some u) → b ≠ x := fun b u q nm z => by subst z; rw [q] at mu; exact nm mu
  refine ⟨fun b u q n _ _ => k b u (hb b n) q, fun b u q n _ _ => ⟨u.slots, k b u (hb b n) q⟩, fun b u q n _ => by rw [upd_ne (hx b n)]; exact n, fun b u q _ => ?_,
    fun b xs q => by rw [upd_ne (hm b _ q fun z => z)]; exact q, fun b u xs q => by rw [upd_ne (hm b _ q fun z => z)]; exact q, fun b ps q => ⟨#[], by rw [upd_ne (hm b _ q fun z => z), q]; simp⟩⟩
  by_cases hbe : b = e
  · subst hbe; exact heo
  · exact ⟨u, k b u hbe q⟩
theorem Un.mono (u : Un fs ex H H1 h h1) (hs : ∀ b ∈ fs, b ∈ fs') (hx : ∀ b ∈ ex, b ∈ ex') : Un fs' ex' H H1 h h1 :=
  ⟨fun b ob q n hb he => u.keep b ob q n (fun z => hb (hs b z)) fun z => he (hx b z), fun _ _ q n _ he => u.any q n fun z => he (hx _ z), fun b ob q n he => u.free b ob q n fun z => he (hx b z), fun b ob q he => u.there b ob q fun z => he (hx b z), u.tups, u.frzs, u.tbls⟩
end

def trk (h : Heap) (H : Hp) : List Addr := (List.range h.objs.size).filter fun a => (H a).isSome
def hidT (h : Heap) (H : Hp) : Heap := PySem.W.hideAll h (trk h H)
theorem hidT_size (h : Heap) (H : Hp) : (hidT h H).objs.size = h.objs.size := PySem.W.hideAll_size _ _
theorem hidT_get {h : Heap} {H : Hp} {b : Addr} {o : Obj} (e : h.get? b = some o) (n : H b = none) : (hidT h H).get? b = some o :=
  PySem.W.hideAll_get _ e fun hm => by
    have q : (H b).isSome = true := (List.mem_filter.mp hm).2
    rw [n] at q; simp at q
theorem of_hidT {h : Heap} {H : Hp} {b : Addr} {o : Obj} (e : (hidT h H).get? b = some o) : h.get? b = some o ∧ H b = none := by
  have e' : h.get? b = some o := PySem.W.of_hideAll (trk h H) e
  refine ⟨e', ?_⟩
  cases q : H b with
  | none => rfl
  | some x =>
    have hm : b ∈ trk h H := List.mem_filter.mpr ⟨List.mem_range.mpr (Heap.lt_size e'), by simp [q]⟩
    have z : (hidT h H).get? b = none := PySem.W.hideAll_none (trk h H) hm
    rw [z] at e; cases e

def allNews (g h : Heap) (L : Addr) : List (Addr × Obj) := (List.range h.objs.size).filterMap fun a => if a = L ∨ (g.get? a).isSome = true then none else (h.get? a).map fun o => (a, o)
def rest (g h : Heap) (L d : Addr) : List (Addr × Obj) := (allNews g h L).filter fun p => decide (p.1 ≠ d)
end L2

namespace L2
open PySem PySem.Spec PyProof.Rows

/-- the module's facts, over the base: the heap at the law's entry without what is tracked there -/
structure Mod (K : PySem.W.Frag) (mg : Str → Option Value) (base : Heap) : Prop where
  kin : K.In base
  glob : base.Ns mainGlobals mg
  blt : ∃ mb, base.Ns builtinsNs mb ∧ ∀ x : Str, x ≠ "__name__" → mb x = bootBuiltins x
  nolimit : base.NoLimit
  bmod : ∃ bm ob, BMod base mainGlobals mg bm ob

/-- the table of the code object of a def of the module's top -/
def TabOf (P : Program) (K : PySem.W.Frag) (mg : Str → Option Value) (Pt : Addr) : Prop :=
  ∃ d ∈ recsOf P, ∃ (f : Addr) (o : Obj) (fd : FuncData) (c : Addr) (oc : Obj) (vs : Array Value), mg d.name = some (.ref f) ∧ K.lookup f = some o ∧ o.data = .func fd ∧ fd.code = .ref c ∧ K.lookup c = some oc ∧ oc.data = .fields vs ∧ vs.getD 11 .none = .ref Pt
/-- all those tables are tracked -/
def Tabs (P : Program) (K : PySem.W.Frag) (mg : Str → Option Value) (H : Hp) : Prop := ∀ Pt, TabOf P K mg Pt → ∃ ps, H Pt = some (.tbl ps)
theorem Tabs.un {P : Program} {K : PySem.W.Frag} {mg : Str → Option Value} {fs ex : List Addr} {H H' : Hp} {h h' : Heap} (T : Tabs P K mg H) (u : Un fs ex H H' h h') : Tabs P K mg H' := fun Pt t => by
  obtain ⟨ps, e⟩ := T Pt t
  obtain ⟨more, e'⟩ := u.tbls Pt ps e
  exact ⟨_, e'⟩

/-- the context: a def's body (or a comprehension's block) running. base: fixed through the whole law; s₀, H₀: the entry; outer: the frames whose slots others may change (a def's callers); stack: all frames that run;
   ex: iterators that were made ahead of the entry and are walked here (a comprehension's); fn: the names whose cells were made at the entry (a def: all; a comprehension's block: its own); calm: not within an except suite; pn: pins that every state bears; xe: what is wanted of an exception that leaves the code -/
structure Cx where
  prog : Program
  w : World
  K : PySem.W.Frag
  mg : Str → Option Value
  base : Heap
  A : Around
  N : List Str
  s_0 : Shared
  H_0 : Hp
  env : Env
  outer : List Env
  stack : List Env
  ex : List Addr
  fn : Str → Bool
  calm : Bool
  pn : List (Addr × Obj)
  xe : Value → Shared → Prop
/-- the callers' frames -/
def frs (l : List Env) : List Addr := l.filterMap (·.frame)
abbrev Cx.fs (X : Cx) : List Addr := frs X.outer

def Vis (sc : Scope) (x : Str) : Prop := sc.names.lookup x = some .local ∨ sc.names.lookup x = some .cell ∨ sc.names.lookup x = some .free
def Loc (sc : Scope) (x : Str) : Prop := sc.names.lookup x = some .local ∨ sc.names.lookup x = some .cell
def Look (env : Env) (h : Heap) (m : Str → Option Value) (x : Str) (u : Value) : Prop :=
  (env.kindOf x = some .local ∧ m x = some u) ∨ ((env.kindOf x = some .cell ∨ env.kindOf x = some .free) ∧ ∃ c, env.cells.lookup x = some c ∧ h.IsCell c (some u))

structure Cx.Ok (X : Cx) : Prop where
  mod : Mod X.K X.mg X.base
  kind : X.env.scope.kind = .function
  glob : X.env.globals = mainGlobals
  blt : X.env.builtins = builtinsNs
  above : X.s_0.heap.objs.size ≤ X.env.locals
  inj : ∀ x y c, X.env.cells.lookup x = some c → X.env.cells.lookup y = some c → x = y
  has : ∀ x, (X.env.kindOf x = some .cell ∨ X.env.kindOf x = some .free) → ∃ c, X.env.cells.lookup x = some c
  cab : ∀ x c, X.fn x = true → X.env.cells.lookup x = some c → X.s_0.heap.objs.size ≤ c
  hd : X.calm = true → X.A.handled = none
  frames : X.A.frames = some X.stack
  stk : X.stack = X.outer ∨ (X.stack = X.env :: X.outer ∧ X.env.frame = some X.env.locals)
  exf : ∀ b ∈ X.ex, b ≠ X.env.locals ∧ ∀ x c, X.env.cells.lookup x = some c → c ≠ b
  bs : ∀ b o, X.base.get? b = some o → X.s_0.heap.get? b = some o ∧ X.H_0 b = none
  bsz : X.base.objs.size ≤ X.s_0.heap.objs.size
  noex : ∀ b o, X.base.get? b = some o → b ∉ X.ex
  exfs : ∀ b ∈ X.ex, b ∉ X.fs
  funs : X.s_0.heap.FunFrames X.base X.outer
  frf : ∀ b ∈ X.fs, X.H_0 b = none
  tb : Tabs X.prog X.K X.mg X.H_0

structure Inv (X : Cx) (pins : List (Addr × Obj)) (σ : List (Option V)) (H : Hp) (s : Shared) : Prop where
  ok : X.Ok
  os : s.os = X.s_0.os
  bare : AllBare s.gens
  base : Un X.fs X.ex X.H_0 H X.s_0.heap s.heap
  loc : ∃ m, s.heap.Ns X.env.locals m ∧ ∀ (i : Nat) (x : Str) (v : V), X.N[i]? = some x → σ[i]? = some (some v) → Vis X.env.scope x → ∃ u, RelV v u ∧ Look X.env s.heap m x u
  cell : ∀ x c, X.env.cells.lookup x = some c → ∃ v, s.heap.IsCell c v
  free : H X.env.locals = none
  freeC : ∀ x c, X.env.cells.lookup x = some c → H c = none
  pin : ∀ p ∈ X.pn ++ pins, s.heap.get? p.1 = some p.2 ∧ H p.1 = none ∧ p.1 ≠ X.env.locals ∧ p.1 ∉ X.fs ∧ ∀ v, p.2.data ≠ .cell v
  hok : HOk X.prog X.w H s.heap
  len : σ.length = X.N.length

section
variable {X : Cx} {pins : List (Addr × Obj)} {σ : List (Option V)} {H H' : Hp} {s : Shared} {h' : Heap}

theorem Cx.Ok.nofr (ok : X.Ok) {b : Addr} {o : Obj} (e : X.base.get? b = some o) : b ∉ X.fs := fun hb => by
  have := (ok.funs.mem hb).1
  rw [e] at this; cases this
theorem Inv.bs (I : Inv X pins σ H s) : ∀ b o, X.base.get? b = some o → s.heap.get? b = some o ∧ H b = none := fun b o e =>
  ⟨I.base.keep b o (I.ok.bs b o e).1 (I.ok.bs b o e).2 (I.ok.nofr e) (I.ok.noex b o e), I.base.free b o (I.ok.bs b o e).1 (I.ok.bs b o e).2 (I.ok.noex b o e)⟩
theorem Inv.bk (I : Inv X pins σ H s) : ∀ b o, X.base.get? b = some o → s.heap.get? b = some o := fun b o e => (I.bs b o e).1
theorem Inv.mod (I : Inv X pins σ H s) : Mod X.K X.mg X.base := I.ok.mod
theorem Inv.kIn (I : Inv X pins σ H s) : X.K.In s.heap := I.ok.mod.kin.keeps I.bk
theorem Inv.nolimit (I : Inv X pins σ H s) : s.heap.NoLimit := I.ok.mod.nolimit.keeps I.bk
/-- the frame over the base: for OpenK's rules (K.In X.base is I.mod.kin) -/
theorem Inv.fr (I : Inv X pins σ H s) : ∃ m, Fr X.base X.env.locals s.heap m :=
  let ⟨m, hn, _⟩ := I.loc
  ⟨m, hn, I.bk, Nat.le_trans I.ok.bsz I.ok.above⟩
theorem Inv.lt (I : Inv X pins σ H s) : X.env.locals < s.heap.objs.size := let ⟨_, hn, _⟩ := I.loc; hn.lt
theorem Inv.sz (I : Inv X pins σ H s) : X.s_0.heap.objs.size ≤ s.heap.objs.size := Nat.le_trans I.ok.above (Nat.le_of_lt I.lt)
theorem Inv.nofs (I : Inv X pins σ H s) {a : Addr} (h : s.heap.objs.size ≤ a) : a ∉ X.fs := fun hb => by
  obtain ⟨_, o, ho, _⟩ := I.ok.funs.mem hb
  exact absurd (Nat.lt_of_lt_of_le (Heap.lt_size ho) (Nat.le_trans I.sz h)) (Nat.lt_irrefl _)
theorem Inv.cne (I : Inv X pins σ H s) : ∀ x c, X.env.cells.lookup x = some c → c ≠ X.env.locals := fun x c e z => by
  obtain ⟨v, o, ho, hd⟩ := I.cell x c e
  obtain ⟨m, ⟨o', es, ep, ho', hd', _⟩, _⟩ := I.loc
  rw [z, ho'] at ho; cases ho; rw [hd'] at hd; cases hd
theorem Inv.funs (I : Inv X pins σ H s) : s.heap.FunFrames X.base X.outer := by
  have all : ∀ (l : List Env), (∀ b ∈ frs l, b ∈ X.fs) → X.s_0.heap.FunFrames X.base l → s.heap.FunFrames X.base l := by
    intro l
    induction l with
    | nil => intro _ _; trivial
    | cons env r ih =>
      intro hs hl
      obtain ⟨hk, ⟨L, o, hf, hn, ho, hd⟩, hr⟩ := hl
      have hL : L ∈ X.fs := hs L (by unfold frs; rw [List.filterMap_cons, hf]; exact List.mem_cons_self)
      obtain ⟨sl, e⟩ := I.base.slot L o ho (I.ok.frf L hL) hL fun z => I.ok.exfs L z hL
      exact ⟨hk, ⟨L, _, hf, hn, e, hd⟩, ih (fun b hb => hs b (by unfold frs; rw [List.filterMap_cons, hf]; exact List.mem_cons_of_mem _ hb)) hr⟩
  exact all X.outer (fun _ hb => hb) I.ok.funs

/-- the frames that run, for a call -/
theorem Inv.stack (I : Inv X pins σ H s) : s.heap.FunFrames X.base X.stack := by
  rcases I.ok.stk with e | ⟨e, hf⟩
  · rw [e]; exact I.funs
  · rw [e]
    obtain ⟨m, hn, _⟩ := I.loc
    refine .cons (by rw [I.ok.kind]; decide) hf hn ?_ I.funs
    exact Heap.get?_none_of_le (Nat.le_trans I.ok.bsz I.ok.above)
theorem Inv.stkSub (I : Inv X pins σ H s) : ∀ b ∈ frs X.stack, b ∈ X.env.locals :: X.fs := fun b hb => by
  rcases I.ok.stk with e | ⟨e, hf⟩
  · rw [e] at hb; exact List.mem_cons_of_mem _ hb
  · rw [e] at hb
    unfold frs at hb
    rw [List.filterMap_cons, hf] at hb
    exact hb
theorem Inv.stkFree (I : Inv X pins σ H s) : ∀ b ∈ frs X.stack, H b = none := fun b hb => by
  rcases List.mem_cons.mp (I.stkSub b hb) with e | hb
  · rw [e]; exact I.free
  · obtain ⟨_, o, ho, _⟩ := I.ok.funs.mem hb
    exact I.base.free b o ho (I.ok.frf b hb) fun z => I.ok.exfs b z hb

/-- THE STEP: the untracked objects but the frame and the records at ch are kept (the callers' frames up to slots), the frame's map is kept, the new abstract heap is held -/
theorem Inv.step {g' : Array GenState} {t' : Nat} {d' : Drawn} {ch : List Addr} (I : Inv X pins σ H s)
    (hch : ∀ b ∈ ch, (b ∈ X.ex ∨ X.s_0.heap.objs.size ≤ b) ∧ b ≠ X.env.locals ∧ (∀ x c, X.env.cells.lookup x = some c → c ≠ b) ∧ ∀ p ∈ X.pn ++ pins, p.1 ≠ b)
    (keep : ∀ b o, b ≠ X.env.locals → b ∉ X.fs → b ∉ ch → s.heap.get? b = some o → H b = none → h'.get? b = some o)
    (slot : ∀ b o, b ≠ X.env.locals → b ∈ X.fs → b ∉ ch → s.heap.get? b = some o → H b = none → ∃ sl, h'.get? b = some { o with slots := sl }) (free : ∀ b o, b ∉ ch → s.heap.get? b = some o → H b = none → H' b = none)
    (there : ∀ b o, b ∉ ch → s.heap.get? b = some o → ∃ o', h'.get? b = some o')
    (tups : ∀ b xs, H b = some (.tup xs) → H' b = some (.tup xs)) (frzs : ∀ b o u, H b = some (.frz o u) → H' b = some (.frz o u)) (tbls : ∀ b ps, H b = some (.tbl ps) → ∃ more, H' b = some (.tbl (ps ++ more)))
    (ns : ∀ m, s.heap.Ns X.env.locals m → h'.Ns X.env.locals m) (hok : HOk X.prog X.w H' h') (hg : AllBare g') :
    Inv X pins σ H' { s with heap := h', gens := g', drawn := d', toks := t' } := by
  have neL : ∀ b o, X.s_0.heap.get? b = some o → b ≠ X.env.locals := fun b o e => Nat.ne_of_lt (Nat.lt_of_lt_of_le (Heap.lt_size e) I.ok.above)
  have neC : ∀ b o, X.s_0.heap.get? b = some o → b ∉ X.ex → b ∉ ch := fun b o e hx hb => by
    rcases (hch b hb).1 with z | z
    · exact hx z
    · exact absurd (Nat.lt_of_lt_of_le (Heap.lt_size e) z) (Nat.lt_irrefl _)
  have cellK : ∀ x c, X.env.cells.lookup x = some c → ∀ v, s.heap.IsCell c v → h'.IsCell c v := fun x c e v ⟨o, ho, hd⟩ => by
    have nch : c ∉ ch := fun z => (hch c z).2.2.1 x c e rfl
    by_cases hc : c ∈ X.fs
    · obtain ⟨sl, q⟩ := slot c o (I.cne x c e) hc nch ho (I.freeC x c e)
      exact ⟨_, q, hd⟩
    · exact ⟨o, keep c o (I.cne x c e) hc nch ho (I.freeC x c e), hd⟩
  refine ⟨I.ok, I.os, hg, ⟨fun b o e n hb hx => ?_, fun b o e n hb hx => ?_, fun b o e n hx => ?_, fun b o e hx => ?_, fun b xs e => tups b xs (I.base.tups b xs e), fun b o xs e => frzs b o xs (I.base.frzs b o xs e), fun b ps e => ?_⟩, ?_, fun x c e => ?_, ?_, fun x c e => ?_, fun p hp => ?_, hok, I.len⟩
  · exact keep b o (neL b o e) hb (neC b o e hx) (I.base.keep b o e n hb hx) (I.base.free b o e n hx)
  · obtain ⟨sl, e1⟩ := I.base.slot b o e n hb hx
    obtain ⟨sl', e2⟩ := slot b _ (neL b o e) hb (neC b o e hx) e1 (I.base.free b o e n hx)
    exact ⟨sl', e2⟩
  · obtain ⟨o', e1⟩ := I.base.there b o e hx
    exact free b o' (neC b o e hx) e1 (I.base.free b o e n hx)
  · obtain ⟨o', e1⟩ := I.base.there b o e hx
    exact there b o' (neC b o e hx) e1
  · obtain ⟨m1, e1⟩ := I.base.tbls b ps e
    obtain ⟨m2, e2⟩ := tbls b _ e1
    exact ⟨m1 ++ m2, by rw [e2, Array.append_assoc]⟩
  · obtain ⟨m, hn, hl⟩ := I.loc
    refine ⟨m, ns m hn, fun i x v e1 e2 e3 => ?_⟩
    obtain ⟨u, r, l⟩ := hl i x v e1 e2 e3
    refine ⟨u, r, ?_⟩
    rcases l with l | ⟨k, c, e, z⟩
    · exact .inl l
    · exact .inr ⟨k, c, e, cellK x c e _ z⟩
  · obtain ⟨v, z⟩ := I.cell x c e
    exact ⟨v, cellK x c e v z⟩
  · obtain ⟨m, ⟨o, _, _, ho, _⟩, _⟩ := I.loc
    exact free _ o (fun z => (hch _ z).2.1 rfl) ho I.free
  · obtain ⟨v, o, ho, hd⟩ := I.cell x c e
    exact free c o (fun z => (hch c z).2.2.1 x c e rfl) ho (I.freeC x c e)
  · obtain ⟨e, n, ne, nf, d⟩ := I.pin p hp
    have nch : p.1 ∉ ch := fun z => (hch p.1 z).2.2.2 p hp rfl
    exact ⟨keep p.1 p.2 ne nf nch e n, free p.1 p.2 nch e n, ne, nf, d⟩
/-- .. where the frame's own object is kept too -/
theorem Inv.un {t' : Nat} (I : Inv X pins σ H s) (u : Un X.fs [] H H' s.heap h') (hok : HOk X.prog X.w H' h') : Inv X pins σ H' { s with heap := h', toks := t' } := by
  obtain ⟨m, ⟨o, es, ep, ho, r⟩, _⟩ := id I.loc
  obtain ⟨sl, hL⟩ := u.any ho I.free (by simp)
  exact I.step (g' := s.gens) (d' := s.drawn) (ch := []) (fun _ z => nomatch z) (fun b o _ hb _ e n => u.keep b o e n hb (by simp)) (fun b o _ hb _ e n => u.slot b o e n hb (by simp)) (fun b o _ e n => u.free b o e n (by simp)) (fun b o _ e => u.there b o e (by simp)) u.tups u.frzs u.tbls (fun m' hm => by
    obtain ⟨o', es', ep', ho', r'⟩ := hm
    rw [ho] at ho'; cases ho'
    exact ⟨_, es', ep', hL, r'⟩) hok I.bare
/-- behind a call (or a comprehension's block): the slots of this frame may have changed too, the records at ch may have turned -/
theorem Inv.call {g' : Array GenState} {t' : Nat} {d' : Drawn} {ch : List Addr} (I : Inv X pins σ H s) (u : Un (frs X.stack) ch H H' s.heap h') (hok : HOk X.prog X.w H' h') (hg : AllBare g')
    (hch : ∀ b ∈ ch, (b ∈ X.ex ∨ X.s_0.heap.objs.size ≤ b) ∧ b ≠ X.env.locals ∧ (∀ x c, X.env.cells.lookup x = some c → c ≠ b) ∧ ∀ p ∈ X.pn ++ pins, p.1 ≠ b) :
    Inv X pins σ H' { s with heap := h', gens := g', drawn := d', toks := t' } := by
  obtain ⟨m, ⟨o, es, ep, ho, r⟩, _⟩ := id I.loc
  obtain ⟨sl, hL⟩ := u.any ho I.free fun z => (hch _ z).2.1 rfl
  exact I.step (ch := ch) hch (fun b o hL hb hc e n => u.keep b o e n (fun z => (List.mem_cons.mp (I.stkSub b z)).elim hL hb) hc) (fun b o _ _ hc e n => u.any e n hc) (fun b o hc e n => u.free b o e n hc) (fun b o hc e => u.there b o e hc) u.tups u.frzs u.tbls (fun m' hm => by
    obtain ⟨o', es', ep', ho', r'⟩ := hm
    rw [ho] at ho'; cases ho'
    exact ⟨_, es', ep', hL, r'⟩) hok hg
/-- an untracked record of ours (an iterator) has turned -/
theorem Inv.turned {t' : Nat} {it : Addr} (I : Inv X pins σ H s) (k : ∀ b o, b ≠ it → s.heap.get? b = some o → h'.get? b = some o) (hn : H it = none) (hL : it ≠ X.env.locals)
    (h1 : it ∈ X.ex ∨ X.s_0.heap.objs.size ≤ it) (h2 : ∀ x c, X.env.cells.lookup x = some c → c ≠ it) (h3 : ∀ p ∈ X.pn ++ pins, p.1 ≠ it) : Inv X pins σ H { s with heap := h', toks := t' } := by
  have nit : ∀ b u, H b = some u → b ≠ it := fun b u e z => by rw [z, hn] at e; cases e
  refine I.step (g' := s.gens) (d' := s.drawn) (ch := [it]) (fun b hb => ?_) (fun b o _ _ hc e _ => k b o (fun z => hc (by simp [z])) e) (fun b o _ _ hc e _ => ⟨o.slots, k b o (fun z => hc (by simp [z])) e⟩) (fun _ _ _ _ n => n)
    (fun b o hc e => ⟨o, k b o (fun z => hc (by simp [z])) e⟩) (fun _ _ e => e) (fun _ _ _ e => e) (fun b ps e => ⟨#[], by rw [e]; simp⟩) (fun m hm => ?_) (fun b u e => ?_) I.bare
  · have e : b = it := by simpa using hb
    subst e
    exact ⟨h1, hL, h2, h3⟩
  · obtain ⟨o, es, ep, ho, r⟩ := hm
    exact ⟨o, es, ep, k _ o (Ne.symm hL) ho, r⟩
  · refine (I.hok b u e).stay (fun c v hc q => k c v ?_ q) (fun _ q => q) fun _ _ q => q
    rcases hc with z | z
    · rw [z]; exact nit b u e
    · exact nit c _ z
theorem Inv.tok (I : Inv X pins σ H s) (t : Nat) : Inv X pins σ H { s with toks := t } := I.un (h' := s.heap) (t' := t) Un.refl I.hok
/-- all objects kept -/
theorem Inv.kept {t' : Nat} (I : Inv X pins σ H s) (k : ∀ b u, s.heap.get? b = some u → h'.get? b = some u) : Inv X pins σ H { s with heap := h', toks := t' } := I.un (Un.kept k) (I.hok.kept k)
/-- a new object laid and tracked -/
theorem Inv.laid {a : Addr} {o : HO} {t' : Nat} (I : Inv X pins σ H s) (k : ∀ b u, s.heap.get? b = some u → h'.get? b = some u) (hp : s.heap.objs.size ≤ a) (new : ObjOk X.prog X.w (upd H a o) h' a o) :
    Inv X pins σ (upd H a o) { s with heap := h', toks := t' } := I.un (Un.laid k hp (I.hok.fresh hp)) (I.hok.laid k hp new)
/-- an object written -/
theorem Inv.write {x e : Addr} {o : HO} {t' : Nat} (I : Inv X pins σ H s) (mu : Mut (H x)) (he : e = x ∨ H e = some (.own x)) (k : ∀ b u, b ≠ e → s.heap.get? b = some u → h'.get? b = some u) (heo : ∃ u, h'.get? e = some u)
    (new : ObjOk X.prog X.w (upd H x o) h' x o) : Inv X pins σ (upd H x o) { s with heap := h', toks := t' } := I.un (Un.write mu he k heo) (I.hok.write mu he k heo new)
/-- forgetting slots, pins -/
theorem Inv.weak {σ' : List (Option V)} (I : Inv X pins σ H s) (hl : σ'.length = σ.length) (w : ∀ (i : Nat) v, σ'[i]? = some (some v) → σ[i]? = some (some v)) : Inv X pins σ' H s :=
  ⟨I.ok, I.os, I.bare, I.base, let ⟨m, hn, hl'⟩ := I.loc; ⟨m, hn, fun i x v e1 e2 e3 => hl' i x v e1 (w i v e2) e3⟩, I.cell, I.free, I.freeC, I.pin, I.hok, hl.trans I.len⟩
theorem Inv.pins_of {pins' : List (Addr × Obj)} (I : Inv X pins σ H s) (h : ∀ p ∈ pins', s.heap.get? p.1 = some p.2 ∧ H p.1 = none ∧ p.1 ≠ X.env.locals ∧ p.1 ∉ X.fs ∧ ∀ v, p.2.data ≠ .cell v) : Inv X pins' σ H s :=
  ⟨I.ok, I.os, I.bare, I.base, I.loc, I.cell, I.free, I.freeC, fun p hp => (List.mem_append.mp hp).elim (fun z => I.pin p (List.mem_append_left _ z)) (h p), I.hok, I.len⟩

theorem nodup_ix {N : List Str} (hN : N.Nodup) {i j : Nat} {x : Str} (a : N[i]? = some x) (b : N[j]? = some x) : i = j := by
  obtain ⟨h1, e1⟩ := List.getElem?_eq_some_iff.mp a
  obtain ⟨h2, e2⟩ := List.getElem?_eq_some_iff.mp b
  exact (List.getElem_inj hN).mp (e1.trans e2.symm)

/-- a name is stored; what changed -/
theorem store_ok2 {M : Model} {A : Around} {E : Value → Shared → Prop} {i : Nat} {x : Str} {v : V} {u : Value} {Q : Unit → Shared → Prop} (I : Inv X pins σ H s) (hN : X.N.Nodup) (hi : X.N[i]? = some x) (hx : Loc X.env.scope x) (r : RelV v u)
    (h : ∀ s', Inv X pins (σ.set i (some v)) H s' → (∃ a, Heap.SameBut a s.heap s'.heap ∧ (a = X.env.locals ∨ X.env.cells.lookup x = some a)) → Q () s') (hf : X.fn x = true ∨ X.env.scope.names.lookup x = some .local := by first | exact .inl rfl | exact .inr rfl | assumption) : wpAny M A (storeName X.env x u) Q E s := by
  obtain ⟨m, hn, hl⟩ := id I.loc
  have hcls : (X.env.scope.kind == .class || (X.env.scope.kind == .module && X.env.locals != X.env.globals)) = false := by rw [I.ok.kind]; rfl
  have hiσ : i < σ.length := by rw [I.len]; exact (List.getElem?_eq_some_iff.mp hi).1
  have cne := I.cne
  have tracked : ∀ {a : Addr} {h' : Heap}, (∃ o, s.heap.get? a = some o ∧ H a = none) → Heap.SameBut a s.heap h' → HOk X.prog X.w H h' := fun {a h'} ha hs b ob e => by
    obtain ⟨_, _, hfree⟩ := ha
    refine (I.hok b ob e).stay (fun c w' hc q => (hs.2 c ?_).trans q) (fun _ q => q) fun _ _ q => q
    rintro rfl
    rcases hc with rfl | hc
    · rw [hfree] at e; cases e
    · rw [hfree] at hc; cases hc
  rcases hx with hk | hk
  · refine wpAny_storeName_local hk hn (fun h' hn' hs => ?_) hcls
    obtain ⟨oL, _, _, hoL, _⟩ := id hn
    refine h _ ⟨I.ok, I.os, I.bare, ⟨fun b o e n hb hx => ?_, fun b o e n hb hx => ?_, I.base.free, fun b o e hx => ?_, I.base.tups, I.base.frzs, I.base.tbls⟩, ⟨_, hn', fun j y v' e1 e2 e3 => ?_⟩, fun y c e => ?_, I.free, I.freeC, fun p hp => ?_, tracked ⟨oL, hoL, I.free⟩ hs, by simpa using I.len⟩ ⟨_, hs, .inl rfl⟩
    · exact (hs.2 b (Nat.ne_of_lt (Nat.lt_of_lt_of_le (Heap.lt_size e) I.ok.above))).trans (I.base.keep b o e n hb hx)
    · obtain ⟨sl, e1⟩ := I.base.slot b o e n hb hx
      exact ⟨sl, (hs.2 b (Nat.ne_of_lt (Nat.lt_of_lt_of_le (Heap.lt_size e) I.ok.above))).trans e1⟩
    · obtain ⟨o', e1⟩ := I.base.there b o e hx
      exact ⟨o', (hs.2 b (Nat.ne_of_lt (Nat.lt_of_lt_of_le (Heap.lt_size e) I.ok.above))).trans e1⟩
    · by_cases hj : j = i
      · subst hj
        rw [hi] at e1; cases e1
        rw [List.getElem?_set_self hiσ] at e2
        cases e2
        exact ⟨u, r, .inl ⟨hk, by simp⟩⟩
      · rw [List.getElem?_set_ne (Ne.symm hj)] at e2
        obtain ⟨u', r', q⟩ := hl j y v' e1 e2 e3
        refine ⟨u', r', ?_⟩
        rcases q with ⟨k, e⟩ | ⟨k, c, e, z⟩
        · refine .inl ⟨k, ?_⟩
          have : y ≠ x := fun e => hj (nodup_ix hN e1 (e ▸ hi))
          simp [this, e]
        · exact .inr ⟨k, c, e, z.sameBut hs (cne y c e)⟩
    · obtain ⟨w', z⟩ := I.cell y c e
      exact ⟨w', z.sameBut hs (cne y c e)⟩
    · obtain ⟨e, n, ne, nf, d⟩ := I.pin p hp
      exact ⟨(hs.2 p.1 ne).trans e, n, ne, nf, d⟩
  · have hfn : X.fn x = true := by
      rcases hf with z | z
      · exact z
      · rw [z] at hk; cases hk
    obtain ⟨c, hc⟩ := I.ok.has x (.inl hk)
    obtain ⟨w', z⟩ := I.cell x c hc
    refine wpAny_storeName_cell I.ok.kind hk hc z (fun h' hc' hs => ?_)
    obtain ⟨oc, hoc, hocd⟩ := id z
    refine h { s with heap := h' } ⟨I.ok, I.os, I.bare, ⟨fun b o e n hb hx => ?_, fun b o e n hb hx => ?_, I.base.free, fun b o e hx => ?_, I.base.tups, I.base.frzs, I.base.tbls⟩, ⟨m, hn.sameBut hs (Ne.symm (cne x c hc)), fun j y v' e1 e2 e3 => ?_⟩, fun y c' e => ?_, I.free, I.freeC, fun p hp => ?_, tracked ⟨oc, hoc, I.freeC x c hc⟩ hs, by simpa using I.len⟩ ⟨c, hs, .inr hc⟩
    · exact (hs.2 b (Nat.ne_of_lt (Nat.lt_of_lt_of_le (Heap.lt_size e) (I.ok.cab x c hfn hc)))).trans (I.base.keep b o e n hb hx)
    · obtain ⟨sl, e1⟩ := I.base.slot b o e n hb hx
      exact ⟨sl, (hs.2 b (Nat.ne_of_lt (Nat.lt_of_lt_of_le (Heap.lt_size e) (I.ok.cab x c hfn hc)))).trans e1⟩
    · obtain ⟨o', e1⟩ := I.base.there b o e hx
      exact ⟨o', (hs.2 b (Nat.ne_of_lt (Nat.lt_of_lt_of_le (Heap.lt_size e) (I.ok.cab x c hfn hc)))).trans e1⟩
    · by_cases hj : j = i
      · subst hj
        rw [hi] at e1; cases e1
        rw [List.getElem?_set_self hiσ] at e2
        cases e2
        exact ⟨u, r, .inr ⟨.inl hk, c, hc, hc'⟩⟩
      · rw [List.getElem?_set_ne (Ne.symm hj)] at e2
        obtain ⟨u', r', q⟩ := hl j y v' e1 e2 e3
        refine ⟨u', r', ?_⟩
        rcases q with q | ⟨k, c', e, z'⟩
        · exact .inl q
        · refine .inr ⟨k, c', e, z'.sameBut hs ?_⟩
          rintro rfl
          exact hj (nodup_ix hN e1 (I.ok.inj _ _ _ e hc ▸ hi))
    · by_cases hcc : c' = c
      · subst hcc; exact ⟨_, hc'⟩
      · obtain ⟨w2, z2⟩ := I.cell y c' e
        exact ⟨w2, z2.sameBut hs hcc⟩
    · obtain ⟨e, n, ne, nf, d⟩ := I.pin p hp
      refine ⟨(hs.2 p.1 ?_).trans e, n, ne, nf, d⟩
      intro q
      rw [q, hoc] at e
      have q' : oc = p.2 := Option.some.inj e
      exact d w' (by rw [← q']; exact hocd)
theorem store_ok {M : Model} {A : Around} {E : Value → Shared → Prop} {i : Nat} {x : Str} {v : V} {u : Value} {Q : Unit → Shared → Prop} (I : Inv X pins σ H s) (hN : X.N.Nodup) (hi : X.N[i]? = some x) (hx : Loc X.env.scope x) (r : RelV v u)
    (h : ∀ s', Inv X pins (σ.set i (some v)) H s' → Q () s') (hf : X.fn x = true ∨ X.env.scope.names.lookup x = some .local := by first | exact .inl rfl | exact .inr rfl | assumption) : wpAny M A (storeName X.env x u) Q E s :=
  store_ok2 I hN hi hx r (fun s' I' _ => h s' I') hf
/-- behind a call or a block, the state as it is -/
theorem Inv.call' {s' : Shared} {ch : List Addr} (I : Inv X pins σ H s) (ho : s'.os = s.os) (u : Un (frs X.stack) ch H H' s.heap s'.heap) (hok : HOk X.prog X.w H' s'.heap) (hg : AllBare s'.gens)
    (hch : ∀ b ∈ ch, (b ∈ X.ex ∨ X.s_0.heap.objs.size ≤ b) ∧ b ≠ X.env.locals ∧ (∀ x c, X.env.cells.lookup x = some c → c ≠ b) ∧ ∀ p ∈ X.pn ++ pins, p.1 ≠ b) : Inv X pins σ H' s' := by
  obtain ⟨h', g', d', t', o'⟩ := s'
  have e : o' = s.os := ho
  subst e
  exact I.call (g' := g') (t' := t') (d' := d') u hok hg hch
end

/-- an exception: its class, its own dict's address (where it has one), the abstract heap behind it -/
abbrev XK := Value → Option Addr → Hp → Prop
abbrev St := List (Option V)
abbrev VK := V → Hp → Prop
/-- an expression's reading; a test's; an argument list's -/
abbrev TE := St → Hp → VK → Prop
abbrev TT := St → Hp → (Bool → Hp → Prop) → Prop
abbrev TA := St → Hp → (List V → Hp → Prop) → Prop
/-- what is wanted behind a statement -/
structure Ends where
  nx : St → Hp → Prop
  rt : VK
  bk : St → Hp → Prop := fun _ _ => False
  ct : St → Hp → Prop := fun _ _ => False
abbrev TS := Ends → St → Hp → Prop

def EP (X : Cx) (pins : List (Addr × Obj)) (σ : St) (Q : VK) (u : Value) (s' : Shared) : Prop := ∃ v H', Inv X pins σ H' s' ∧ RelV v u ∧ Q v H'
def TP (X : Cx) (pins : List (Addr × Obj)) (σ : St) (Q : Bool → Hp → Prop) (b : Bool) (s' : Shared) : Prop := ∃ H', Inv X pins σ H' s' ∧ Q b H'
def AP (X : Cx) (pins : List (Addr × Obj)) (σ : St) (Q : List V → Hp → Prop) (us : List Value) (s' : Shared) : Prop := ∃ vs H', Inv X pins σ H' s' ∧ Vals vs us ∧ Q vs H'
def SP (X : Cx) (pins : List (Addr × Obj)) (D : Ends) (f : Flow) (s' : Shared) : Prop :=
  match f with
  | .next => ∃ σ' H', Inv X pins σ' H' s' ∧ D.nx σ' H'
  | .brk => ∃ σ' H', Inv X pins σ' H' s' ∧ D.bk σ' H'
  | .cont => ∃ σ' H', Inv X pins σ' H' s' ∧ D.ct σ' H'
  | .ret u => ∃ v σ' H', Inv X pins σ' H' s' ∧ RelV v u ∧ D.rt v H'

def PE (X : Cx) (e : Expr) (t : TE) : Prop :=
  ∀ (pins : List (Addr × Obj)) (s : Shared) (σ : St) (H : Hp) (Q : VK), Inv X pins σ H s → t σ H Q → wpAny (model X.prog X.w) X.A (eval e X.env) (EP X pins σ Q) X.xe s
def PT (X : Cx) (e : Expr) (t : TT) : Prop :=
  ∀ (pins : List (Addr × Obj)) (s : Shared) (σ : St) (H : Hp) (Q : Bool → Hp → Prop), Inv X pins σ H s → t σ H Q → wpAny (model X.prog X.w) X.A (isTrue e X.env (eval e X.env)) (TP X pins σ Q) X.xe s
/-- a test whatever its 'whole' is (and, or) -/
def PW (X : Cx) (e : Expr) (t : TT) : Prop :=
  ∀ (whole : Sem Value) (pins : List (Addr × Obj)) (s : Shared) (σ : St) (H : Hp) (Q : Bool → Hp → Prop), Inv X pins σ H s → t σ H Q → wpAny (model X.prog X.w) X.A (isTrue e X.env whole) (TP X pins σ Q) X.xe s
theorem PW.pt {X : Cx} {e : Expr} {t : TT} (h : PW X e t) : PT X e t := h _
/-- an argument list (no star), from the left -/
def PA (X : Cx) (es : List Expr) (t : TA) : Prop :=
  ∀ (pos : Pos) (pins : List (Addr × Obj)) (s : Shared) (σ : St) (H : Hp) (Q : List V → Hp → Prop), Inv X pins σ H s → t σ H Q → wpAny (model X.prog X.w) X.A (spliced (backTo pos (starEach es X.env))) (AP X pins σ Q) X.xe s
def PS (X : Cx) (st : Stmt) (t : TS) : Prop :=
  ∀ (pins : List (Addr × Obj)) (s : Shared) (σ : St) (H : Hp) (D : Ends), Inv X pins σ H s → t D σ H → wpAny (model X.prog X.w) X.A (exec st X.env) (SP X pins D) X.xe s
def PSs (X : Cx) (st : List Stmt) (t : TS) : Prop :=
  ∀ (pins : List (Addr × Obj)) (s : Shared) (σ : St) (H : Hp) (D : Ends), Inv X pins σ H s → t D σ H → wpAny (model X.prog X.w) X.A (execs st X.env) (SP X pins D) X.xe s
/-- weaken the end -/
theorem thn {α : Type} {t : Sem α} {Q Q' : α → Shared → Prop} {M : Model} {A : Around} {E : Value → Shared → Prop} {s : Shared} (h : wpAny M A t Q E s) (hQ : ∀ a s, Q a s → Q' a s) : wpAny M A t Q' E s := wpAny_mono h hQ fun _ _ x => x
end L2

namespace L2
open PySem PySem.Spec PyProof.Rows
section
variable {X : Cx}

def tVar (i : Nat) : TE := fun σ H Q => ∃ v, σ[i]? = some (some v) ∧ Q v H
def tC (v : V) : TE := fun _ H Q => Q v H
theorem pe_var {i : Nat} {x : Str} {pos : Pos} (hN : X.N[i]? = some x) (hv : Vis X.env.scope x) (hd : (x == ("__debug__" : Str)) = false := by decide) (hcd : (x == ("__classdict__" : Str)) = false := by decide) : PE X (.Name x pos) (tVar i) := by
  intro pins s σ H Q I h
  obtain ⟨v, e, h⟩ := h
  obtain ⟨m, hn, hl⟩ := I.loc
  obtain ⟨u, r, l⟩ := hl i x v hN e hv
  have fin : EP X pins σ Q u s := ⟨v, H, I, r, h⟩
  rcases l with ⟨hk, hm⟩ | ⟨hk, c, hc, hcell⟩
  · exact wpAny_Name (wpAny_loadName_local I.ok.kind hk hn hm fin) hd
  · rcases hk with hk | hk
    · exact wpAny_Name (wpAny_loadName_cell I.ok.kind hk hc hcell fin) hd
    · exact wpAny_Name (wpAny_loadName_free I.ok.kind hk hc hcell fin hcd) hd
theorem pe_int {i j pos} : PE X (.Constant (.int i) j pos) (tC (.int i)) := fun _ _ _ H _ I h => wpAny_Constant_int ⟨.int i, H, I.tok _, ⟨_, rfl⟩, h⟩
theorem pe_bl {b j pos} : PE X (.Constant (.bool b) j pos) (tC (.bl b)) := fun _ _ _ H _ I h => Constant_bool ⟨.bl b, H, I, rfl, h⟩
theorem pe_non {j pos} : PE X (.Constant .none j pos) (tC .non) := fun _ _ _ H _ I h => Constant_none ⟨.non, H, I, rfl, h⟩
/-- a global name of the def -/
def Gl (X : Cx) (x : Str) : Prop := X.env.kindOf x = some .globalImplicit
theorem ld_glob {E : Value → Shared → Prop} {pins : List (Addr × Obj)} {s : Shared} {σ : St} {H : Hp} {x : Str} {u : Value} {pos : Pos} {Q : Value → Shared → Prop} (I : Inv X pins σ H s) (hg : Gl X x) (hm : X.mg x = some u) (h : Q u s)
    (hd : (x == ("__debug__" : Str)) = false := by decide) : wpAny (model X.prog X.w) X.A (eval (.Name x pos) X.env) Q E s :=
  Calls.Name_function_global I.ok.kind hg (Calls.loadGlobal_global (by rw [I.ok.glob]; exact I.mod.glob.keeps I.bk) hm h) hd
theorem ld_blt {E : Value → Shared → Prop} {pins : List (Addr × Obj)} {s : Shared} {σ : St} {H : Hp} {x : Str} {u : Value} {pos : Pos} {Q : Value → Shared → Prop} (I : Inv X pins σ H s) (hg : Gl X x) (hm : X.mg x = none) (hv : bootBuiltins x = some u) (h : Q u s)
    (hn : x ≠ "__name__" := by decide) (hd : (x == ("__debug__" : Str)) = false := by decide) : wpAny (model X.prog X.w) X.A (eval (.Name x pos) X.env) Q E s := by
  obtain ⟨mb, h1, h2⟩ := I.mod.blt
  exact Calls.Name_function_global I.ok.kind hg (Calls.loadGlobal_builtin (by rw [I.ok.glob]; exact I.mod.glob.keeps I.bk) hm (by rw [I.ok.blt]; exact h1.keeps I.bk) ((h2 x hn).trans hv) h) hd
theorem pe_bltn {x : Str} {v : V} {u : Value} {pos : Pos} (hg : Gl X x) (hm : X.mg x = none) (hv : bootBuiltins x = some u) (r : RelV v u) (hn : x ≠ "__name__" := by decide) (hd : (x == ("__debug__" : Str)) = false := by decide) : PE X (.Name x pos) (tC v) :=
  fun _ _ _ H _ I h => ld_blt I hg hm hv ⟨v, H, I, r, h⟩ hn hd

variable {a b : Expr} {ta tb : TE} {pos : Pos}
/-- a comparison as a value, as a test -/
def tB (t : TE) : TT := fun σ H Q => t σ H fun x H1 => ∃ c, x = .bl c ∧ Q c H1
/-- an expression whose value is a bool, as a test -/
theorem pt_val {e : Expr} {t : TE} (h : PE X e t) (he : ∀ whole, isTrue e X.env whole = (do let v ← whole; standAt e.pos; holding [v] (truthy v)) := by intro _; rfl) : PT X e (tB t) := by
  intro pins s σ H Q I hw
  refine isTrue_plain (thn (h pins s σ H _ I hw) fun v s1 ⟨x, H1, I1, r1, q1⟩ => ?_) (he _)
  obtain ⟨d, rfl, q⟩ := q1
  cases r1
  exact wpAny_truthy_bool ⟨H1, I1, q⟩

variable {tA tB' : TT} {rest : List Expr}
def tAnd (t u : TT) : TT := fun σ H Q => t σ H fun c H1 => if c = true then u σ H1 Q else Q false H1
def tOr (t u : TT) : TT := fun σ H Q => t σ H fun c H1 => if c = true then Q true H1 else u σ H1 Q
def tNot (t : TT) : TT := fun σ H Q => t σ H fun c H1 => Q (!c) H1
theorem pw_and1 (ha : PT X a tA) : PW X (.BoolOp .And [a] pos) tA := by
  intro wh pins s σ H Q I h
  refine isTrue_and (thn (ha pins s σ H Q I h) fun c s1 e => ?_)
  cases c with
  | true => exact isTrue_and_nil e
  | false => exact e
theorem pw_or1 (ha : PT X a tA) : PW X (.BoolOp .Or [a] pos) tA := by
  intro wh pins s σ H Q I h
  refine isTrue_or (thn (ha pins s σ H Q I h) fun c s1 e => ?_)
  cases c with
  | false => exact isTrue_or_nil e
  | true => exact e
theorem pw_and (ha : PT X a tA) (hb : PW X (.BoolOp .And (b :: rest) pos) tB') : PW X (.BoolOp .And (a :: b :: rest) pos) (tAnd tA tB') := by
  intro wh pins s σ H Q I h
  refine isTrue_and (thn (ha pins s σ H _ I h) fun c s1 ⟨H1, I1, q1⟩ => ?_)
  cases c with
  | true => exact hb wh pins s1 σ H1 Q I1 q1
  | false => exact ⟨H1, I1, q1⟩
theorem pw_or (ha : PT X a tA) (hb : PW X (.BoolOp .Or (b :: rest) pos) tB') : PW X (.BoolOp .Or (a :: b :: rest) pos) (tOr tA tB') := by
  intro wh pins s σ H Q I h
  refine isTrue_or (thn (ha pins s σ H _ I h) fun c s1 ⟨H1, I1, q1⟩ => ?_)
  cases c with
  | true => exact ⟨H1, I1, q1⟩
  | false => exact hb wh pins s1 σ H1 Q I1 q1
theorem pt_not (ha : PT X a tA) : PT X (.UnaryOp .Not a pos) (tNot tA) := by
  intro pins s σ H Q I h
  exact isTrue_not (ha pins s σ H (fun c H1 => Q (!c) H1) I h)
/-- .. as values (bools) -/
def tAndV (ta tb : TE) : TE := fun σ H Q => ta σ H fun x H1 => ∃ c, x = .bl c ∧ if c = true then tb σ H1 Q else Q (.bl false) H1
def tNotV (ta : TE) : TE := fun σ H Q => ta σ H fun x H1 => ∃ c, x = .bl c ∧ Q (.bl (!c)) H1
theorem pe_one {op} {t : TE} (h : PE X a t) : PE X (.BoolOp op [a] pos) t := fun pins s σ H Q I hw => BoolOp_one (h pins s σ H Q I hw)
theorem pe_and (ha : PE X a ta) (hb : PE X (.BoolOp .And (b :: rest) pos) tb) : PE X (.BoolOp .And (a :: b :: rest) pos) (tAndV ta tb) := by
  intro pins s σ H Q I h
  refine BoolOp_and (thn (ha pins s σ H _ I h) fun v s1 ⟨x, H1, I1, r1, q1⟩ => ?_)
  obtain ⟨c, rfl, q1⟩ := q1
  cases r1
  refine wpAny_truthy_bool ?_
  cases c with
  | true => exact hb pins s1 σ H1 Q I1 q1
  | false => exact ⟨.bl false, H1, I1, rfl, q1⟩
theorem pe_not (ha : PE X a ta) : PE X (.UnaryOp .Not a pos) (tNotV ta) := by
  intro pins s σ H Q I h
  refine UnaryOp_ (thn (ha pins s σ H _ I h) fun v s1 ⟨x, H1, I1, r1, q1⟩ => ?_)
  obtain ⟨c, rfl, q1⟩ := q1
  cases r1
  exact not_of (wpAny_truthy_bool ⟨.bl (!c), H1, I1, rfl, q1⟩)
/-- a if t else b -/
def tIf (t : TT) (ta tb : TE) : TE := fun σ H Q => t σ H fun c H1 => if c = true then ta σ H1 Q else tb σ H1 Q
theorem pe_ifExp {c : Expr} (hc : PT X c tA) (ha : PE X a ta) (hb : PE X b tb) : PE X (.IfExp c a b pos) (tIf tA ta tb) := by
  intro pins s σ H Q I h
  refine wpAny_IfExp (thn (hc pins s σ H _ I h) fun d s1 ⟨H1, I1, q1⟩ => ?_)
  cases d with
  | true => exact ha pins s1 σ H1 Q I1 q1
  | false => exact hb pins s1 σ H1 Q I1 q1
end
end L2

namespace L2
open PySem PySem.Spec PyProof.Rows

def SqL (K : PySem.W.Frag) (H : Hp) (a : Addr) (xs : List V) : Prop :=
  Rd H a (.lst xs) ∨
    ∃ (o : Obj) (its : Array Value) (n : Nat), K.lookup a = some o ∧ o.cls = .type "list" ∧ o.dict = none ∧ o.data = .seq its n ∧ its.size ≤ sizeLine ∧ Vals xs its.toList
def SqT (K : PySem.W.Frag) (H : Hp) (a : Addr) (xs : List V) : Prop :=
  Rd H a (.tup xs) ∨
    ∃ (o : Obj) (its : Array Value) (n : Nat), K.lookup a = some o ∧ o.cls = .type "tuple" ∧ o.data = .seq its n ∧ its.size ≤ sizeLine ∧ Vals xs its.toList
def absV : Value → Option V
  | .none => some .non
  | .bool b => some (.bl b)
  | .int i _ => some (.int i)
  | .str x _ => some (.str x)
  | .bytes b _ => some (.byt b)
  | .float b _ => some (.flt b)
  | .ref a => some (.ref a)
  | .type n => some (.ty n)
  | _ => none
theorem RelV.abs {x : V} {u : Value} (r : RelV x u) : absV u = some x := by
  cases x with
  | non => cases r; rfl
  | bl _ => cases r; rfl
  | int _ => obtain ⟨t, rfl⟩ := r; rfl
  | str _ => obtain ⟨t, rfl⟩ := r; rfl
  | byt _ => obtain ⟨t, rfl⟩ := r; rfl
  | flt _ => obtain ⟨t, rfl⟩ := r; rfl
  | ref _ => cases r; rfl
  | ty _ => cases r; rfl
theorem RelV.inj {x y : V} {u : Value} (r : RelV x u) (q : RelV y u) : x = y := Option.some.inj (r.abs.symm.trans q.abs)
theorem Vals.inj : ∀ {xs ys : List V} {us : List Value}, Vals xs us → Vals ys us → xs = ys
  | _, _, _, .nil, .nil => rfl
  | _, _, _, .cons r t, .cons r' t' => by rw [r.inj r', Vals.inj t t']
section
variable {X : Cx} {pins : List (Addr × Obj)} {σ : St} {H : Hp} {s : Shared} {a : Addr} {xs ys : List V}
theorem SqL.of {K : PySem.W.Frag} (h : H a = some (.lst xs)) : SqL K H a xs := .inl (.inl h)
theorem SqT.of {K : PySem.W.Frag} (h : H a = some (.tup xs)) : SqT K H a xs := .inl (.inl h)
theorem Inv.list (I : Inv X pins σ H s) (h : SqL X.K H a xs) : ∃ its : List Value, Vals xs its ∧ PlainL s.heap a its.toArray ∧ xs.length ≤ sizeLine := by
  rcases h with h | ⟨o, its, n, hk, hc, hd, hs, hz, r⟩
  · obtain ⟨z, its, n, r, e⟩ := h.ok I.hok
    exact ⟨its, r, ⟨_, n, e, rfl, rfl, rfl⟩, z⟩
  · refine ⟨its.toList, r, ⟨o, n, I.kIn a o hk, hc, hd, by simpa using hs⟩, ?_⟩
    have e := r.length
    simp only [Array.length_toList] at e
    omega
theorem Inv.tuple (I : Inv X pins σ H s) (h : SqT X.K H a xs) : ∃ its : List Value, Vals xs its ∧ IsTup s.heap a its.toArray ∧ xs.length ≤ sizeLine := by
  rcases h with h | ⟨o, its, n, hk, hc, hs, hz, r⟩
  · obtain ⟨z, its, r, p⟩ := h.ok I.hok
    exact ⟨its, r, p, z⟩
  · refine ⟨its.toList, r, ⟨o, I.kIn a o hk, hc, n, by simpa using hs⟩, ?_⟩
    have e := r.length
    simp only [Array.length_toList] at e
    omega
theorem Inv.list_inj (I : Inv X pins σ H s) (h : SqL X.K H a xs) (h' : SqL X.K H a ys) : xs = ys := by
  obtain ⟨its, r, ⟨o, n, e, _, _, d⟩, _⟩ := I.list h
  obtain ⟨its', r', ⟨o', n', e', _, _, d'⟩, _⟩ := I.list h'
  rw [e] at e'; cases e'
  rw [d] at d'
  injection d' with d1 _
  have : its = its' := by simpa using congrArg Array.toList d1
  subst this
  exact r.inj r'
end

abbrev Cx.wish (X : Cx) (E : Value → Shared → Prop) : Cx := { X with xe := E }
/-- no exception leaves -/
abbrev Cx.nox (X : Cx) : Cx := X.wish fun _ _ => False
theorem Cx.Ok.wish {X : Cx} (ok : X.Ok) (E : Value → Shared → Prop) : (X.wish E).Ok :=
  ⟨ok.mod, ok.kind, ok.glob, ok.blt, ok.above, ok.inj, ok.has, ok.cab, ok.hd, ok.frames, ok.stk, ok.exf, ok.bs, ok.bsz, ok.noex, ok.exfs, ok.funs, ok.frf, ok.tb⟩
theorem Cx.Ok.unwish {X : Cx} {E : Value → Shared → Prop} (ok : (X.wish E).Ok) : X.Ok :=
  ⟨ok.mod, ok.kind, ok.glob, ok.blt, ok.above, ok.inj, ok.has, ok.cab, ok.hd, ok.frames, ok.stk, ok.exf, ok.bs, ok.bsz, ok.noex, ok.exfs, ok.funs, ok.frf, ok.tb⟩
section
variable {X : Cx} {pins : List (Addr × Obj)} {σ : St} {H : Hp} {s : Shared} {E : Value → Shared → Prop}
theorem Inv.wish (I : Inv X pins σ H s) (E : Value → Shared → Prop) : Inv (X.wish E) pins σ H s := ⟨I.ok.wish E, I.os, I.bare, I.base, I.loc, I.cell, I.free, I.freeC, I.pin, I.hok, I.len⟩
theorem Inv.unwish (I : Inv (X.wish E) pins σ H s) : Inv X pins σ H s := ⟨I.ok.unwish, I.os, I.bare, I.base, I.loc, I.cell, I.free, I.freeC, I.pin, I.hok, I.len⟩
theorem SP.unwish {D : Ends} {f : Flow} {s' : Shared} (h : SP (X.wish E) pins D f s') : SP X pins D f s' := by
  cases f with
  | next => obtain ⟨σ', H', I, q⟩ := h; exact ⟨σ', H', I.unwish, q⟩
  | brk => obtain ⟨σ', H', I, q⟩ := h; exact ⟨σ', H', I.unwish, q⟩
  | cont => obtain ⟨σ', H', I, q⟩ := h; exact ⟨σ', H', I.unwish, q⟩
  | ret u => obtain ⟨v, σ', H', I, r, q⟩ := h; exact ⟨v, σ', H', I.unwish, r, q⟩
theorem PE.nox {e : Expr} {t : TE} (h : PE X.nox e t) : PE X e t := fun pins s σ H Q I hw =>
  wpAny_mono (h pins s σ H Q (I.wish _) hw) (fun _ _ ⟨v, H', I', r, q⟩ => ⟨v, H', I'.unwish, r, q⟩) fun _ _ z => False.elim z
theorem PT.nox {e : Expr} {t : TT} (h : PT X.nox e t) : PT X e t := fun pins s σ H Q I hw =>
  wpAny_mono (h pins s σ H Q (I.wish _) hw) (fun _ _ ⟨H', I', q⟩ => ⟨H', I'.unwish, q⟩) fun _ _ z => False.elim z
theorem PSs.nox {st : List Stmt} {t : TS} (h : PSs X.nox st t) : PSs X st t := fun pins s σ H D I hw =>
  wpAny_mono (h pins s σ H D (I.wish _) hw) (fun _ _ q => q.unwish) fun _ _ z => False.elim z
end

section
variable {X : Cx} {st : Stmt} {rest : List Stmt} {t u : TS} {e : Expr} {te : TE} {pos : Pos}
def tNext : TS := fun D σ H => D.nx σ H
def tSeq (t u : TS) : TS := fun D σ H => t { D with nx := u D } σ H
theorem pss_nil : PSs X [] tNext := fun _ _ σ H _ I h => wpAny_execs_nil ⟨σ, H, I, h⟩
theorem pss_cons (h1 : PS X st t) (h2 : PSs X rest u) : PSs X (st :: rest) (tSeq t u) := by
  intro pins s σ H D I h
  refine wpAny_execs_cons (thn (h1 pins s σ H { D with nx := u D } I h) fun f s1 q => ?_)
  cases f with
  | next =>
    obtain ⟨σ', H', I', q⟩ := q
    exact h2 pins s1 σ' H' D I' q
  | ret v => exact q
  | brk => exact q
  | cont => exact q
theorem pss_one (h1 : PS X st t) : PSs X [st] t := by
  intro pins s σ H D I h
  refine wpAny_execs_cons (thn (h1 pins s σ H D I h) fun f s1 q => ?_)
  cases f with
  | next => exact wpAny_execs_nil q
  | ret v => exact q
  | brk => exact q
  | cont => exact q
/-- in a def's body nothing is shown -/
theorem Inv.quiet {pins : List (Addr × Obj)} {σ : St} {H : Hp} {s : Shared} (I : Inv X pins σ H s) : interactive X.env = false := by simp [interactive, I.ok.kind]
/-- an expression whose value is dropped -/
def tDrop (te : TE) : TS := fun D σ H => te σ H fun _ H1 => D.nx σ H1
theorem ps_expr (he : PE X e te) (hs : swapsWith e none pos.line X.env = pure false := by rfl) : PS X (.Expr e pos) (tDrop te) := by
  intro pins s σ H D I h
  exact wpAny_Expr_any (thn (he pins s σ H _ I h) fun v s1 ⟨x, H1, I1, r1, q1⟩ => ⟨σ, H1, I1, q1⟩) I.quiet hs
def tRet (te : TE) : TS := fun D σ H => te σ H D.rt
theorem ps_ret (he : PE X e te) : PS X (.Return (some e) pos) (tRet te) := by
  intro pins s σ H D I h
  exact wpAny_Return_some (thn (he pins s σ H _ I h) fun v s1 ⟨x, H1, I1, r1, q1⟩ => ⟨x, σ, H1, I1, r1, q1⟩)
def tIfS (c : TT) (t u : TS) : TS := fun D σ H => c σ H fun b H1 => if b = true then t D σ H1 else u D σ H1
theorem ps_if {c : Expr} {a b : List Stmt} {tc : TT} (hc : PT X c tc) (ha : PSs X a t) (hb : PSs X b u) : PS X (.If c a b pos) (tIfS tc t u) := by
  intro pins s σ H D I h
  refine wpAny_If (thn (hc pins s σ H _ I h) fun d s1 ⟨H1, I1, q1⟩ => ?_)
  cases d with
  | true => exact ha pins s1 σ H1 D I1 q1
  | false => exact hb pins s1 σ H1 D I1 q1
/-- code that the proof never comes to -/
def tNever : TS := fun _ _ _ => False
theorem ps_never : PS X st tNever := fun _ _ _ _ _ _ h => h.elim
end

abbrev TG := V → St → Hp → (St → Hp → Prop) → Prop
abbrev TGs := List V → St → Hp → (St → Hp → Prop) → Prop
def PG (X : Cx) (target : Expr) (t : TG) : Prop :=
  ∀ (pins : List (Addr × Obj)) (s : Shared) (σ : St) (H : Hp) (v : V) (u : Value) (Q : St → Hp → Prop), Inv X pins σ H s → RelV v u → t v σ H Q →
    wpAny (model X.prog X.w) X.A (assign target X.env u) (fun _ s' => ∃ σ' H', Inv X pins σ' H' s' ∧ Q σ' H') X.xe s
/-- several targets, one after another -/
def PGs (X : Cx) (ts : List Expr) (t : TGs) : Prop :=
  ∀ (pins : List (Addr × Obj)) (s : Shared) (σ : St) (H : Hp) (vs : List V) (us : List Value) (Q : St → Hp → Prop), Inv X pins σ H s → Vals vs us → t vs σ H Q →
    wpAny (model X.prog X.w) X.A (assignInOrder ((assignEach ts X.env).map (·.2)) us) (fun _ s' => ∃ σ' H', Inv X pins σ' H' s' ∧ Q σ' H') X.xe s
/-- o[i] = v, by values -/
abbrev TSet := V → V → V → Hp → (Hp → Prop) → Prop
def PSet (X : Cx) (t : TSet) : Prop :=
  ∀ (pins : List (Addr × Obj)) (s : Shared) (σ : St) (H : Hp) (o i v : V) (ov iv u : Value) (Q : Hp → Prop), Inv X pins σ H s → RelV o ov → RelV i iv → RelV v u → t o i v H Q →
    wpAny (model X.prog X.w) X.A (setItem ov iv u) (fun _ s' => ∃ H', Inv X pins σ H' s' ∧ Q H') X.xe s
section
variable {X : Cx} {pos : Pos}
def gName (i : Nat) : TG := fun v σ H Q => Q (σ.set i (some v)) H
theorem pg_name {i : Nat} {x : Str} (hN : X.N.Nodup) (hi : X.N[i]? = some x) (hx : Loc X.env.scope x) (hf : X.fn x = true ∨ X.env.scope.names.lookup x = some .local := by first | exact .inl rfl | exact .inr rfl | assumption) : PG X (.Name x pos) (gName i) := by
  intro pins s σ H v u Q I r h
  exact wpAny_assign_Name (store_ok I hN hi hx r (fun s' I' => ⟨_, H, I', h⟩) hf)
def gNil : TGs := fun vs σ H Q => vs = [] ∧ Q σ H
def gCons (t : TG) (u : TGs) : TGs := fun vs σ H Q => ∃ v r, vs = v :: r ∧ t v σ H fun σ' H' => u r σ' H' Q
theorem pgs_nil : PGs X [] gNil := by
  intro pins s σ H vs us Q I r h
  obtain ⟨e, h⟩ := h
  subst e
  cases r
  exact assignInOrder_nil ⟨σ, H, I, h⟩
theorem pgs_cons {e : Expr} {es : List Expr} {t : TG} {u : TGs} (h1 : PG X e t) (h2 : PGs X es u)
    (hs : (assignEach (e :: es) X.env).map (·.2) = assign e X.env :: (assignEach es X.env).map (·.2) := by rfl) : PGs X (e :: es) (gCons t u) := by
  intro pins s σ H vs us Q I r h
  obtain ⟨v, vr, e1, h⟩ := h
  subst e1
  cases r with
  | cons r rr =>
    rw [hs]
    refine assignInOrder_cons (thn (h1 pins s σ H _ _ _ I r h) fun _ s1 ⟨σ1, H1, I1, q1⟩ => ?_)
    exact h2 pins s1 σ1 H1 _ _ Q I1 rr q1
/-- (a, b, ..) = a tuple of that length -/
def gTup (K : PySem.W.Frag) (n : Nat) (t : TGs) : TG := fun v σ H Q => ∃ a xs, v = .ref a ∧ SqT K H a xs ∧ xs.length = n ∧ t xs σ H Q
theorem pg_tup {es : List Expr} {k : Nat} {t : TGs} {n : Nat} (hc : X.calm = true) (h : PGs X es t)
    (hn : (assignEach es X.env).length = n := by rfl) (hst : (assignEach es X.env).findIdx? (·.1) = none := by rfl) : PG X (.Tuple es k pos) (gTup X.K n t) := by
  intro pins s σ H v u Q I r hw
  obtain ⟨a, xs, e1, hq, hl, hw⟩ := hw
  subst e1
  cases r
  obtain ⟨its, rv, ht, hz⟩ := I.tuple hq
  refine assign_Tuple_tuple (I.ok.hd hc) ht (by simp [hn, ← hl, rv.length]) hst fun h' hx => ?_
  have I1 : Inv X pins σ H { s with heap := h' } := I.kept (t' := s.toks) fun b o e => hx b o (Nat.ne_of_lt (Heap.lt_size e)) e
  exact h pins _ σ H xs _ Q I1 (by simpa using rv) hw
/-- o[i] = .. -/
def gSub (to ti : TE) (t : TSet) : TG := fun v σ H Q => to σ H fun o H1 => ti σ H1 fun i H2 => t o i v H2 fun H3 => Q σ H3
theorem pg_sub {o i : Expr} {to ti : TE} {t : TSet} (ho : PE X o to) (hi : PE X i ti) (hs : PSet X t)
    (ha : ∀ v, assign (.Subscript o i pos) X.env v = (do
      let ov ← holding [v] (eval o X.env)
      let iv ← holding [v, ov] (eval i X.env)
      standAt pos
      holding [v, ov, iv] (setItem ov iv v)
      release [v, ov, iv] []) := by intro _; rfl) : PG X (.Subscript o i pos) (gSub to ti t) := by
  intro pins s σ H v u Q I r h
  rw [ha]
  refine wpAny_bind (wpAny_holding (thn (ho pins s σ H _ I h) fun ov s1 ⟨x, H1, I1, r1, q1⟩ => ?_))
  refine wpAny_bind (wpAny_holding (thn (hi pins s1 σ H1 _ I1 q1) fun iv s2 ⟨y, H2, I2, r2, q2⟩ => ?_))
  refine wpAny_bind (wpAny_standAt (wpAny_bind (wpAny_holding (thn (hs pins s2 σ H2 x y v ov iv u _ I2 r1 r2 r q2) fun _ s3 ⟨H3, I3, q3⟩ => ?_))))
  exact wpAny_release ⟨σ, H3, I3, q3⟩
/-- target = value -/
def tAsg (te : TE) (g : TG) : TS := fun D σ H => te σ H fun x H1 => g x σ H1 D.nx
theorem ps_asg {tg e : Expr} {te : TE} {g : TG} (he : PE X e te) (hg : PG X tg g) (hs : swapsWithSole [tg] e pos.line X.env = pure false := by rfl) (hw : swappedStores [tg] e X.env = pure none := by rfl)
    (h1 : (assignEach [tg] X.env).map (·.2) = [assign tg X.env] := by rfl) : PS X (.Assign [tg] e pos) (tAsg te g) := by
  intro pins s σ H D I h
  refine wpAny_Assign_stores (thn (he pins s σ H _ I h) fun v s1 ⟨x, H1, I1, r1, q1⟩ => ?_) hs hw
  rw [h1]
  exact thn (hg pins s1 σ H1 x v _ I1 r1 q1) fun _ s2 q => q
/-- name = value -/
theorem ps_set {i : Nat} {x : Str} {e : Expr} {te : TE} {pos' : Pos} (hN : X.N.Nodup) (hi : X.N[i]? = some x) (hx : Loc X.env.scope x) (he : PE X e te) (hs : swapsWith e (some (.Name x pos')) pos.line X.env = pure false := by rfl) (hf : X.fn x = true ∨ X.env.scope.names.lookup x = some .local := by first | exact .inl rfl | exact .inr rfl | assumption) :
    PS X (.Assign [.Name x pos'] e pos) (tAsg te (gName i)) := by
  intro pins s σ H D I h
  refine wpAny_Assign_Name (thn (he pins s σ H _ I h) fun v s1 ⟨y, H1, I1, r1, q1⟩ => ?_) hs
  exact store_ok I1 hN hi hx r1 (fun s2 I2 => ⟨_, H1, I2, q1⟩) hf
end

section
variable {X : Cx} {pos : Pos}
/-- the invariant W with its measure -/
def tWhile (c : TT) (tb : TS) : TS := fun D σ H => ∃ W : Nat → St → Hp → Prop, (∃ m, W m σ H) ∧ ∀ m σ H, W m σ H →
  c σ H fun b H1 => if b = true then ∃ N : St → Hp → Prop, (∀ σ' H', N σ' H' → ∃ m', m' < m ∧ W m' σ' H') ∧ tb { D with nx := N, ct := N, bk := D.nx } σ H1 else D.nx σ H1
theorem ps_while {c : Expr} {body : List Stmt} {tc : TT} {tb : TS} (hp : PassesOwn (model X.prog X.w) X.A X.env X.xe) (hc : PT X c tc) (hb : PSs X body tb) : PS X (.While c body [] pos) (tWhile tc tb) := by
  intro pins s σ H D I h
  obtain ⟨W, ⟨m0, w0⟩, turn⟩ := h
  refine wpAny_While (codeAny_whileLoop (fun n s' => ∃ σ' H', Inv X pins σ' H' s' ∧ W n σ' H') ?_ m0 ⟨σ, H, I, w0⟩)
  rintro n s1 ⟨σ1, H1, I1, w1⟩
  refine wpAny_passesOwn hp (thn (hc pins s1 σ1 H1 _ I1 (turn n σ1 H1 w1)) fun b s2 ⟨H2, I2, q2⟩ => ?_)
  cases b with
  | true =>
    obtain ⟨N, hN, q2⟩ := q2
    rw [if_pos rfl]
    refine wpAny_passesOwn hp (thn (hb pins s2 σ1 H2 _ I2 q2) fun f s3 q3 => ?_)
    cases f with
    | next =>
      obtain ⟨σ3, H3, I3, n3⟩ := q3
      obtain ⟨m', hm, w3⟩ := hN σ3 H3 n3
      exact ⟨m', hm, σ3, H3, I3, w3⟩
    | cont =>
      obtain ⟨σ3, H3, I3, n3⟩ := q3
      obtain ⟨m', hm, w3⟩ := hN σ3 H3 n3
      exact ⟨m', hm, σ3, H3, I3, w3⟩
    | brk => exact q3
    | ret v => exact q3
  | false =>
    rw [if_neg Bool.false_ne_true]
    exact wpAny_execs_nil ⟨σ1, H2, I2, q2⟩
end

/-- at turn i: it yields x (the heap may grow), or it stops -/
structure It where
  go : Nat → Hp → Prop
  yld : Nat → Hp → V → Hp → Prop
  stop : Nat → Hp → Prop
/-- the iterator's own objects may turn: they are not the frame's, not pinned, younger than the entry (or a comprehension's own) -/
def FpOk (X : Cx) (pins : List (Addr × Obj)) (H : Hp) (b : Addr) : Prop :=
  H b = none ∧ b ≠ X.env.locals ∧ b ∉ X.fs ∧ (b ∈ X.ex ∨ X.s_0.heap.objs.size ≤ b) ∧ (∀ x c, X.env.cells.lookup x = some c → c ≠ b) ∧ ∀ p ∈ X.pn ++ pins, p.1 ≠ b
theorem Inv.fpOk {X : Cx} {pins : List (Addr × Obj)} {σ : St} {H H' : Hp} {s : Shared} {b : Addr} (I : Inv X pins σ H s) (hb : s.heap.objs.size ≤ b) (hn : H' b = none) : FpOk X pins H' b := by
  refine ⟨hn, Nat.ne_of_gt (Nat.lt_of_lt_of_le I.lt hb), I.nofs hb, .inr (Nat.le_trans I.sz hb), fun x c e z => ?_, fun p hp z => ?_⟩
  · obtain ⟨v, q⟩ := I.cell x c e
    exact absurd (Nat.lt_of_lt_of_le q.lt (by rw [z]; exact hb)) (Nat.lt_irrefl _)
  · exact absurd (Nat.lt_of_lt_of_le (Heap.lt_size (I.pin p hp).1) (by rw [z]; exact hb)) (Nat.lt_irrefl _)
structure Turn (P : Program) (w : World) (K : PySem.W.Frag) (tg : Expr) (J : It) (fp : List Addr) (it : Addr) (tn : Nat → Heap → Prop) : Prop where
  mem : it ∈ fp
  obj : ∀ i h, tn i h → ∀ b ∈ fp, ∃ o, h.get? b = some o ∧ ∀ v, o.data ≠ .cell v
  keep : ∀ i h h', tn i h → (∀ b ∈ fp, ∀ o, h.get? b = some o → h'.get? b = some o) → tn i h'
  item : ∀ (X : Cx), X.prog = P → X.w = w → X.K = K → X.calm = true → ∀ (i : Nat) (pins : List (Addr × Obj)) (s : Shared) (σ : St) (H : Hp) (E : Value → Shared → Prop), Inv X pins σ H s → (∀ b ∈ fp, FpOk X pins H b) → tn i s.heap → J.go i H →
    wpAny (model P w) X.A (pyNext (.ref it)) (fun r s1 => ∃ u, r = some u ∧
      wpAny (model P w) X.A (letOwnedTupleGo tg (.ref it) u) (fun _ s2 => ∃ x H', Inv X pins σ H' s2 ∧ RelV x u ∧ J.yld i H x H' ∧ tn (i + 1) s2.heap ∧ ∀ b ∈ fp, H' b = none) E s1) E s
  done : ∀ (X : Cx), X.prog = P → X.w = w → X.K = K → X.calm = true → ∀ (i : Nat) (pins : List (Addr × Obj)) (s : Shared) (σ : St) (H : Hp) (E : Value → Shared → Prop), Inv X pins σ H s → (∀ b ∈ fp, FpOk X pins H b) → tn i s.heap → J.stop i H →
    wpAny (model P w) X.A (pyNext (.ref it)) (fun r s1 => r = none ∧ Inv X pins σ H s1) E s
  self : ∀ (A : Around) (i : Nat) (s : Shared) (Q : Value → Shared → Prop) (E : Value → Shared → Prop), tn i s.heap → Q (.ref it) s → wpAny (model P w) A (pyIter (.ref it)) Q E s
abbrev TI := St → Hp → (It → Hp → Prop) → Prop
/-- an iterator has come -/
def PIE (X : Cx) (pins : List (Addr × Obj)) (σ : St) (tg : Expr) (R : It → Hp → Prop) (itv : Value) (s2 : Shared) : Prop :=
  ∃ (it : Addr) (fp : List Addr) (tn : Nat → Heap → Prop) (J : It) (H' : Hp), itv = .ref it ∧ Inv X pins σ H' s2 ∧ Turn X.prog X.w X.K tg J fp it tn ∧ tn 0 s2.heap ∧ (∀ b ∈ fp, FpOk X pins H' b) ∧ R J H'
def PI (X : Cx) (tg iter : Expr) (wi : TI) : Prop :=
  ∀ (pins : List (Addr × Obj)) (s : Shared) (σ : St) (H : Hp) (R : It → Hp → Prop), Inv X pins σ H s → wi σ H R →
    wpAny (model X.prog X.w) X.A (eval iter X.env) (fun v s1 => wpAny (model X.prog X.w) X.A (pyIter v) (PIE X pins σ tg R) X.xe s1) X.xe s

/-- the step ahead of the store is nothing for an iterator that keeps no tuple -/
theorem go_of {M : Model} {A : Around} {E : Value → Shared → Prop} {s : Shared} {tg : Expr} {it : Addr} {u : Value} {o : Obj} {n : String} {vs : Array Value} {Q : Unit → Shared → Prop} (ho : s.heap.get? it = some o) (hc : o.cls = .type n) (hd : o.data = .fields vs)
    (hn : ["enumerate", "zip", "dict_itemiterator", "dict_reverseitemiterator", "odict_iterator", "itertools.zip_longest", "itertools.pairwise"].contains n = false) (hQ : Q () s) : wpAny M A (letOwnedTupleGo tg (.ref it) u) Q E s := by
  unfold letOwnedTupleGo
  cases tg <;> first
    | exact wpAny_pure hQ
    | (cases u <;> first
        | exact wpAny_pure hQ
        | (refine wpAny_bind (wpAny_load ho ?_)
           rw [hc, hd]
           show wpAny M A (if (["enumerate", "zip", "dict_itemiterator", "dict_reverseitemiterator", "odict_iterator", "itertools.zip_longest", "itertools.pairwise"].contains n && vs[0]? == some (rawInt _)) = true then _ else _) Q E s
           rw [if_neg (by intro h; rw [hn, Bool.false_and] at h; cases h)]
           exact wpAny_pure hQ))

/-- the list at a, as it stands at each turn (a loop may append to it) -/
def Itl (K : PySem.W.Frag) (a : Addr) : It :=
  ⟨fun i H => ∃ xs x, SqL K H a xs ∧ xs[i]? = some x, fun i H x H' => H' = H ∧ ∀ xs, SqL K H a xs → xs[i]? = some x, fun i H => ∃ xs, SqL K H a xs ∧ xs.length ≤ i⟩
/-- lo, lo + 1, .. (n of them) -/
def Itr (lo : Int) (n : Nat) : It := ⟨fun i _ => i < n, fun i H x H' => H' = H ∧ x = .int (lo + i), fun i _ => n ≤ i⟩
theorem turn_list {P : Program} {w : World} {K : PySem.W.Frag} {tg : Expr} (a it : Addr) : Turn P w K tg (Itl K a) [it] it (fun i h => h.IsListIter it a i) where
  mem := by simp
  obj := fun i h st b hb => by
    have e : b = it := by simpa using hb
    subst e
    obtain ⟨o, e, c, d⟩ := st
    exact ⟨o, e, fun v z => by rw [d] at z; cases z⟩
  keep := fun i h h' st k => st.at fun o e => k it (by simp) o e
  item := by
    intro X hP hw hK hc i pins s σ H E I hf st hg
    subst hP hw hK
    obtain ⟨xs, x, hq, hx⟩ := hg
    obtain ⟨its, rv, p, hz⟩ := I.list hq
    obtain ⟨u, hu, ru⟩ := rv.get hx
    obtain ⟨f0, f1, f2, f3, f4, f5⟩ := hf it (by simp)
    refine wpAny_pyNext_list_item st p.isList (x := u) (by simpa using hu) fun h' st' sb => ?_
    have I1 : Inv X pins σ H { s with heap := h' } := I.turned (t' := s.toks) (fun b o hb e => (sb.2 b hb).trans e) f0 f1 f3 f4 f5
    obtain ⟨o, e, c, d⟩ := id st'
    exact ⟨u, rfl, go_of (s := { s with heap := h' }) e c d (by decide) ⟨x, H, I1, ru, ⟨rfl, fun ys hy => by rw [I.list_inj hy hq]; exact hx⟩, st', fun b hb => (hf b hb).1⟩⟩
  done := by
    intro X hP hw hK hc i pins s σ H E I hf st hg
    subst hP hw hK
    obtain ⟨xs, hq, hx⟩ := hg
    obtain ⟨its, rv, p, hz⟩ := I.list hq
    obtain ⟨f0, f1, f2, f3, f4, f5⟩ := hf it (by simp)
    have hl := rv.length
    exact wpAny_pyNext_list_end (I.ok.hd hc) st p.isList (by simp; omega) fun h' eb => ⟨rfl, I.turned (t' := s.toks) (fun b o hb e => eb b o hb e) f0 f1 f3 f4 f5⟩
  self := fun _ _ _ _ _ st h => wpAny_pyIter_listiter st h
theorem turn_range {P : Program} {w : World} {K : PySem.W.Frag} {tg : Expr} (it : Addr) (lo : Int) (n : Nat) : Turn P w K tg (Itr lo n) [it] it (fun i h => IsRangeIter h it (lo + (i : Nat) * 1) ((n : Int) - (i : Nat)) 1) where
  mem := by simp
  obj := fun i h st b hb => by
    have e : b = it := by simpa using hb
    subst e
    exact ⟨_, st, fun v z => by
      have z' : Data.fields _ = Data.cell v := z
      cases z'⟩
  keep := fun i h h' st k => k it (by simp) _ st
  item := by
    intro X hP hw hK hc i pins s σ H E I hf st hg
    subst hP hw hK
    obtain ⟨f0, f1, f2, f3, f4, f5⟩ := hf it (by simp)
    have W := Walks.range (prog := X.prog) (w := X.w) (I.ok.hd hc) it lo 1 n
    refine W.item i s _ _ hg st fun v h' tk hv st' kk => ?_
    obtain ⟨t, rfl⟩ := hv
    have I1 : Inv X pins σ H { s with heap := h', toks := tk } := I.turned (fun b o hb e => kk b o (by simpa using hb) e) f0 f1 f3 f4 f5
    refine ⟨_, rfl, go_of (s := { s with heap := h', toks := tk }) (n := "range_iterator") st' rfl rfl (by decide) ⟨.int (lo + i), H, I1, ⟨t, ?_⟩, ⟨rfl, rfl⟩, st', fun b hb => (hf b hb).1⟩⟩
    rw [Int.mul_one]
  done := by
    intro X hP hw hK hc i pins s σ H E I hf st hg
    subst hP hw hK
    obtain ⟨f0, f1, f2, f3, f4, f5⟩ := hf it (by simp)
    exact wpAny_pyNext_range_end (I.ok.hd hc) st (by have : n ≤ i := hg; omega) fun h' eb => ⟨rfl, I.turned (t' := s.toks) (fun b o hb e => eb b o hb e) f0 f1 f3 f4 f5⟩
  self := fun _ _ _ _ _ st h => wpAny_pyIter_rangeiter st h
end L2

namespace L2
open PySem PySem.Spec PyProof.Rows
section
variable {X : Cx} {tg : Expr}
def iList (K : PySem.W.Frag) (tl : TE) : TI := fun σ H R => tl σ H fun x H1 => ∃ a, x = .ref a ∧ (∃ xs, SqL K H1 a xs) ∧ R (Itl K a) H1
theorem pi_list {l : Expr} {tl : TE} (hl : PE X l tl) : PI X tg l (iList X.K tl) := by
  intro pins s σ H R I h
  refine thn (hl pins s σ H _ I h) fun v s1 ⟨x, H1, I1, r1, q1⟩ => ?_
  obtain ⟨a, e, ⟨xs, hq⟩, q⟩ := q1
  subst e
  cases r1
  obtain ⟨its, rv, p, hz⟩ := I1.list hq
  refine wpAny_pyIter_list p.isList ?_
  refine ⟨s1.heap.objs.size, [s1.heap.objs.size], _, _, H1, rfl, I1.kept (t' := s1.toks) fun b o e => Heap.get?_push_of_some _ e, turn_list a _, ⟨_, Heap.get?_push_size _ rfl, rfl, rfl⟩, fun b hb => ?_, q⟩
  have e : b = s1.heap.objs.size := by simpa using hb
  subst e
  exact I1.fpOk (Nat.le_refl _) (I1.hok.fresh (Nat.le_refl _))
/-- a range object just made, walked -/
theorem range_it {pins : List (Addr × Obj)} {σ : St} {H : Hp} {s : Shared} {R : It → Hp → Prop} {E : Value → Shared → Prop} {lo hi : Int} {t u v : Tok} {tk : Nat} (I : Inv X pins σ H s) (h1 : -(2 ^ 62) ≤ lo) (h2 : lo < 2 ^ 62) (h3 : -(2 ^ 62) ≤ hi) (h4 : hi < 2 ^ 62)
    (q : R (Itr lo (hi - lo).toNat) H) : wpAny (model X.prog X.w) X.A (pyIter (.ref s.heap.objs.size)) (PIE X pins σ tg R) E { s with heap := s.heap.push { cls := .type "range", data := .fields #[.int lo t, .int hi u, .int 1 v] }, toks := tk } := by
  refine wpAny_pyIter_range (IsRange.new ..) (small_one h1 h2 h3 h4) ?_
  have I1 : Inv X pins σ H { s with heap := s.heap.push { cls := .type "range", data := .fields #[.int lo t, .int hi u, .int 1 v] }, toks := tk } := I.kept fun b o e => Heap.get?_push_of_some _ e
  refine ⟨(s.heap.push { cls := .type "range", data := .fields #[.int lo t, .int hi u, .int 1 v] }).objs.size, [(s.heap.push { cls := .type "range", data := .fields #[.int lo t, .int hi u, .int 1 v] }).objs.size], _, _, H, rfl,
    I1.kept (t' := tk) fun b o e => Heap.get?_push_of_some _ e, turn_range _ lo (hi - lo).toNat, ?_, fun b hb => ?_, q⟩
  · have e1 : lo + ((0 : Nat) : Int) * 1 = lo := by simp
    have e2 : (((hi - lo).toNat : Nat) : Int) - ((0 : Nat) : Int) = Builtin.Range.rangeSize lo hi 1 := by rw [rangeSize_one]; split <;> omega
    show IsRangeIter _ _ (lo + ((0 : Nat) : Int) * 1) ((((hi - lo).toNat : Nat) : Int) - ((0 : Nat) : Int)) 1
    rw [e1, e2]
    exact Heap.get?_push_size _ rfl
  · have e : b = (s.heap.push { cls := .type "range", data := .fields #[.int lo t, .int hi u, .int 1 v] }).objs.size := by simpa using hb
    subst e
    exact I1.fpOk (Nat.le_refl _) (I1.hok.fresh (Nat.le_refl _))
def iRng1 (ta : TA) : TI := fun σ H R => ta σ H fun vs H1 => ∃ j : Int, vs = [.int j] ∧ -(2 ^ 62) ≤ j ∧ j < 2 ^ 62 ∧ R (Itr 0 j.toNat) H1
theorem pi_range1 {a : Expr} {ta : TA} {p pos : Pos} (hg : Gl X "range") (hm : X.mg "range" = none) (ha : PA X [a] ta) (hs : starEach [a] X.env = [(false, eval a X.env)] := by rfl) : PI X tg (.Call (.Name "range" p) [a] [] pos) (iRng1 ta) := by
  intro pins s σ H R I h
  refine Call_ (ld_blt I hg hm boot_range (PyProof.Rows.callWith_type1 (thn (ha pos pins s σ H _ I h) fun us s1 ⟨vs, H1, I1, r1, q1⟩ => ?_) hs rfl))
  obtain ⟨j, e, q1, q2, q⟩ := q1
  subst e
  cases r1 with
  | cons r rr =>
    cases rr
    obtain ⟨t, rfl⟩ := r
    exact call_range_1 (range_it I1 (by omega) (by omega) q1 q2 (by simpa using q))
/-- W: the invariant by the turn and a measure; N: what the body is to reach -/
def tFor (wi : TI) (g : TG) (tb : TS) : TS := fun D σ H => wi σ H fun J H1 => ∃ W : Nat → Nat → St → Hp → Prop, (∃ m, W 0 m σ H1) ∧ ∀ i m σ H, W i m σ H →
  (J.stop i H ∧ D.nx σ H) ∨ (J.go i H ∧ ∃ N : St → Hp → Prop, (∀ σ' H', N σ' H' → ∃ m', m' < m ∧ W (i + 1) m' σ' H') ∧ ∀ x H', J.yld i H x H' → g x σ H' fun σ2 H2 => tb { D with nx := N, ct := N, bk := D.nx } σ2 H2)
/-- the records at fp as they stand -/
def pinsAt (fp : List Addr) (h : Heap) : List (Addr × Obj) := fp.filterMap fun b => (h.get? b).map fun o => (b, o)
theorem mem_pinsAt {fp : List Addr} {h : Heap} {b : Addr} {o : Obj} (hb : b ∈ fp) (e : h.get? b = some o) : (b, o) ∈ pinsAt fp h := List.mem_filterMap.mpr ⟨b, hb, by rw [e]; rfl⟩
theorem of_pinsAt {fp : List Addr} {h : Heap} {p : Addr × Obj} (hp : p ∈ pinsAt fp h) : p.1 ∈ fp ∧ h.get? p.1 = some p.2 := by
  obtain ⟨b, hb, e⟩ := List.mem_filterMap.mp hp
  cases q : h.get? b with
  | none => rw [q] at e; cases e
  | some o =>
    rw [q] at e
    have e' : (b, o) = p := Option.some.inj e
    subst e'
    exact ⟨hb, q⟩
theorem Inv.pinned {pins : List (Addr × Obj)} {σ : St} {H : Hp} {s : Shared} {fp : List Addr} (I : Inv X pins σ H s) (hf : ∀ b ∈ fp, FpOk X pins H b) (ho : ∀ b ∈ fp, ∃ o, s.heap.get? b = some o ∧ ∀ v, o.data ≠ .cell v) : Inv X (pins ++ pinsAt fp s.heap) σ H s :=
  I.pins_of fun p hp => (List.mem_append.mp hp).elim (fun z => I.pin p (List.mem_append_right _ z)) fun z => by
    obtain ⟨hb, e⟩ := of_pinsAt z
    obtain ⟨f0, f1, f2, _⟩ := hf p.1 hb
    obtain ⟨o, e', d⟩ := ho p.1 hb
    rw [e] at e'; cases e'
    exact ⟨e, f0, f1, f2, d⟩
theorem Inv.unpinned {pins pl : List (Addr × Obj)} {σ : St} {H : Hp} {s : Shared} (I : Inv X (pins ++ pl) σ H s) : Inv X pins σ H s := I.pins_of fun p hp => I.pin p (List.mem_append_right _ (List.mem_append_left _ hp))
theorem ps_for {iter : Expr} {body : List Stmt} {wi : TI} {g : TG} {tb : TS} {pos : Pos} (hp : PassesOwn (model X.prog X.w) X.A X.env X.xe) (hc : X.calm = true) (hi : PI X tg iter wi) (hg : PG X tg g) (hb : PSs X body tb)
    (hs : ∀ x, foldedSetIterable iter X.env x = pure x := by intro _; rfl) : PS X (.For tg iter body [] pos) (tFor wi g tb) := by
  intro pins s σ H D I h
  refine wpAny_For (thn (hi pins s σ H _ I h) fun v s1 h1 => thn h1 fun itv s2 h2 => ?_) hs
  obtain ⟨it, fp, tn, J, H2, e, I2, T, st2, f2, W, ⟨m0, w0⟩, turn⟩ := h2
  subst e
  -- what stays true of the iterator's objects through the loop
  have stat : ∀ {H' : Hp}, (∀ b ∈ fp, H' b = none) → ∀ b ∈ fp, FpOk X pins H' b := fun hn b hb => ⟨hn b hb, (f2 b hb).2⟩
  refine codeAny_forLoop_any (fun n s' => ∃ i σ' H', Inv X pins σ' H' s' ∧ tn i s'.heap ∧ (∀ b ∈ fp, H' b = none) ∧ W i n σ' H') ?_ m0 ⟨0, σ, H2, I2, st2, fun b hb => (f2 b hb).1, w0⟩
  rintro n s3 ⟨i, σ3, H3, I3, st3, fr3, w3⟩
  rcases turn i n σ3 H3 w3 with ⟨stop, qn⟩ | ⟨go, N, hN, step⟩
  · refine wpAny_passesOwn hp (thn (T.done X rfl rfl rfl hc i pins s3 σ3 H3 X.xe I3 (stat fr3) st3 stop) fun r s4 ⟨hr, I4⟩ => ?_)
    subst hr
    exact wpAny_execs_nil ⟨σ3, H3, I4, qn⟩
  · refine wpAny_passesOwn hp (thn (T.item X rfl rfl rfl hc i pins s3 σ3 H3 X.xe I3 (stat fr3) st3 go) fun r s4 ⟨u, hr, h4⟩ => ?_)
    subst hr
    refine wpAny_passesOwn hp (thn h4 fun _ s5 ⟨x, H5, I5, r5, y5, st5, fr5⟩ => ?_)
    have I5' := I5.pinned (stat fr5) (T.obj _ _ st5)
    refine wpAny_passesOwn hp (thn (hg _ s5 σ3 H5 x u _ I5' r5 (step x H5 y5)) fun _ s6 ⟨σ6, H6, I6, q6⟩ => ?_)
    refine wpAny_passesOwn hp (thn (hb _ s6 σ6 H6 _ I6 q6) fun f s7 q7 => ?_)
    have again : ∀ {σ7 : St} {H7 : Hp}, Inv X (pins ++ pinsAt fp s5.heap) σ7 H7 s7 → N σ7 H7 → ∃ m, m < n ∧ ∃ i σ' H', Inv X pins σ' H' s7 ∧ tn i s7.heap ∧ (∀ b ∈ fp, H' b = none) ∧ W i m σ' H' := fun {σ7 H7} I7 n7 => by
      obtain ⟨m', hm, w7⟩ := hN σ7 H7 n7
      refine ⟨m', hm, i + 1, σ7, H7, I7.unpinned, T.keep _ _ _ st5 fun b hb o e => (I7.pin (b, o) (List.mem_append_right _ (List.mem_append_right _ (mem_pinsAt hb e)))).1, fun b hb => ?_, w7⟩
      obtain ⟨o, e, d⟩ := T.obj _ _ st5 b hb
      exact (I7.pin (b, o) (List.mem_append_right _ (List.mem_append_right _ (mem_pinsAt hb e)))).2.1
    cases f with
    | next => obtain ⟨σ7, H7, I7, n7⟩ := q7; exact again I7 n7
    | cont => obtain ⟨σ7, H7, I7, n7⟩ := q7; exact again I7 n7
    | brk => obtain ⟨σ7, H7, I7, q7⟩ := q7; exact ⟨σ7, H7, I7.unpinned, q7⟩
    | ret v => obtain ⟨x7, σ7, H7, I7, r7, q7⟩ := q7; exact ⟨x7, σ7, H7, I7.unpinned, r7, q7⟩
end

/-- over a list that the body leaves as it is -/
theorem for_list {K : PySem.W.Frag} {a : Addr} {xs : List V} {g : TG} {tb : TS} {D : Ends} {σ : St} {H : Hp} (Pv : Nat → St → Hp → Prop) (h0 : Pv 0 σ H) (hl : ∀ i σ H, i ≤ xs.length → Pv i σ H → SqL K H a xs)
    (hs : ∀ i x σ H, xs[i]? = some x → Pv i σ H → g x σ H fun σ2 H2 => tb { D with nx := Pv (i + 1), ct := Pv (i + 1), bk := D.nx } σ2 H2) (hd : ∀ σ H, Pv xs.length σ H → D.nx σ H) :
    ∃ W : Nat → Nat → St → Hp → Prop, (∃ m, W 0 m σ H) ∧ ∀ i m σ H, W i m σ H →
      ((Itl K a).stop i H ∧ D.nx σ H) ∨ ((Itl K a).go i H ∧ ∃ N : St → Hp → Prop, (∀ σ' H', N σ' H' → ∃ m', m' < m ∧ W (i + 1) m' σ' H') ∧ ∀ x H', (Itl K a).yld i H x H' → g x σ H' fun σ2 H2 => tb { D with nx := N, ct := N, bk := D.nx } σ2 H2) := by
  refine ⟨fun i m σ H => m = xs.length - i ∧ i ≤ xs.length ∧ Pv i σ H, ⟨xs.length, by simp, Nat.zero_le _, h0⟩, ?_⟩
  rintro i m σ H ⟨rfl, hi, p⟩
  have q := hl i σ H hi p
  by_cases hlt : i < xs.length
  · refine .inr ⟨⟨xs, xs[i], q, by simp [hlt]⟩, Pv (i + 1), fun σ' H' p' => ⟨xs.length - (i + 1), by omega, rfl, hlt, p'⟩, fun x H' y => ?_⟩
    obtain ⟨e, y⟩ := y
    subst e
    exact hs i x σ _ (y xs q) p
  · have e : i = xs.length := by omega
    subst e
    exact .inl ⟨⟨xs, q, Nat.le_refl _⟩, hd σ H p⟩
theorem for_range {lo : Int} {n : Nat} {g : TG} {tb : TS} {D : Ends} {σ : St} {H : Hp} (Pv : Nat → St → Hp → Prop) (h0 : Pv 0 σ H)
    (hs : ∀ i σ H, i < n → Pv i σ H → g (.int (lo + i)) σ H fun σ2 H2 => tb { D with nx := Pv (i + 1), ct := Pv (i + 1), bk := D.nx } σ2 H2) (hd : ∀ σ H, Pv n σ H → D.nx σ H) :
    ∃ W : Nat → Nat → St → Hp → Prop, (∃ m, W 0 m σ H) ∧ ∀ i m σ H, W i m σ H →
      ((Itr lo n).stop i H ∧ D.nx σ H) ∨ ((Itr lo n).go i H ∧ ∃ N : St → Hp → Prop, (∀ σ' H', N σ' H' → ∃ m', m' < m ∧ W (i + 1) m' σ' H') ∧ ∀ x H', (Itr lo n).yld i H x H' → g x σ H' fun σ2 H2 => tb { D with nx := N, ct := N, bk := D.nx } σ2 H2) := by
  refine ⟨fun i m σ H => m = n - i ∧ i ≤ n ∧ Pv i σ H, ⟨n, by simp, Nat.zero_le _, h0⟩, ?_⟩
  rintro i m σ H ⟨rfl, hi, p⟩
  by_cases hlt : i < n
  · refine .inr ⟨hlt, Pv (i + 1), fun σ' H' p' => ⟨n - (i + 1), by omega, rfl, hlt, p'⟩, fun x H' y => ?_⟩
    obtain ⟨e, y⟩ := y
    subst e y
    exact hs i σ _ hlt p
  · have e : i = n := by omega
    subst e
    exact .inl ⟨Nat.le_refl _, hd σ H p⟩
end L2

namespace L2
open PySem PySem.Spec PyProof.Rows

abbrev R2 := V → V → Hp → VK → Prop
/-- a two-place operation on values: f is binaryOp op, inplaceOp op or compareOp op -/
def OpR (X : Cx) (f : Value → Value → Sem Value) (r : R2) : Prop :=
  ∀ (pins : List (Addr × Obj)) (s : Shared) (σ : St) (H : Hp) (x y : V) (v u : Value) (Q : VK), Inv X pins σ H s → RelV x v → RelV y u → r x y H Q →
    wpAny (model X.prog X.w) X.A (f v u) (EP X pins σ Q) X.xe s
/-- a one-place operation -/
def UnR (X : Cx) (f : Value → Sem Value) (r : V → Hp → VK → Prop) : Prop :=
  ∀ (pins : List (Addr × Obj)) (s : Shared) (σ : St) (H : Hp) (x : V) (v : Value) (Q : VK), Inv X pins σ H s → RelV x v → r x H Q →
    wpAny (model X.prog X.w) X.A (f v) (EP X pins σ Q) X.xe s
/-- a call of a value that is known (a builtin, a type) with values -/
def CallR (X : Cx) (f : Value) (r : List V → Hp → VK → Prop) : Prop :=
  ∀ (pins : List (Addr × Obj)) (s : Shared) (σ : St) (H : Hp) (xs : List V) (us : List Value) (Q : VK), Inv X pins σ H s → Vals xs us → r xs H Q →
    wpAny (model X.prog X.w) X.A (call f us) (EP X pins σ Q) X.xe s
/-- a value's truth -/
def TruR (X : Cx) (r : V → Hp → (Bool → Hp → Prop) → Prop) : Prop :=
  ∀ (pins : List (Addr × Obj)) (s : Shared) (σ : St) (H : Hp) (x : V) (v : Value) (Q : Bool → Hp → Prop), Inv X pins σ H s → RelV x v → r x H Q →
    wpAny (model X.prog X.w) X.A (truthy v) (TP X pins σ Q) X.xe s

def tOp (r : R2) (ta tb : TE) : TE := fun σ H Q => ta σ H fun x H1 => tb σ H1 fun y H2 => r x y H2 Q
def tUn (r : V → Hp → VK → Prop) (ta : TE) : TE := fun σ H Q => ta σ H fun x H1 => r x H1 Q
/-- ints in, under C, and a value out -/
def rI (C : Int → Int → Prop) (g : Int → Int → V) : R2 := fun x y H Q => ∃ i j, x = .int i ∧ y = .int j ∧ C i j ∧ Q (g i j) H
def rI0 (g : Int → Int → V) : R2 := fun x y H Q => ∃ i j, x = .int i ∧ y = .int j ∧ Q (g i j) H
def rU (g : Int → V) : V → Hp → VK → Prop := fun x H Q => ∃ i, x = .int i ∧ Q (g i) H

section
variable {X : Cx} {a b c : Expr} {ta tb tc : TE} {pos : Pos}

theorem binT (ha : PE X a ta) (hb : PE X b tb) {pins : List (Addr × Obj)} {s : Shared} {σ : St} {H : Hp} {R : V → V → Hp → Prop} (I : Inv X pins σ H s)
    (h : ta σ H fun x H1 => tb σ H1 fun y H2 => R x y H2) {Q : Value → Shared → Prop} {f : Value → Value → Sem Value}
    (hf : ∀ v u s2 x y H2, Inv X pins σ H2 s2 → RelV x v → RelV y u → R x y H2 → wpAny (model X.prog X.w) X.A (f v u) Q X.xe s2) :
    wpAny (model X.prog X.w) X.A (eval a X.env) (fun v s₁ => wpAny (model X.prog X.w) X.A (eval b X.env) (fun u s₂ => wpAny (model X.prog X.w) X.A (f v u) Q X.xe s₂) X.xe s₁) X.xe s := by
  refine thn (ha pins s σ H _ I h) fun v s1 ⟨x, H1, I1, r1, q1⟩ => ?_
  refine thn (hb pins s1 σ H1 _ I1 q1) fun u s2 ⟨y, H2, I2, r2, q2⟩ => ?_
  exact hf v u s2 x y H2 I2 r1 r2 q2

theorem pe_op {op : Operator} {r : R2} (ho : OpR X (binaryOp op) r) (ha : PE X a ta) (hb : PE X b tb) : PE X (.BinOp a op b pos) (tOp r ta tb) := by
  intro pins s σ H Q I h
  exact wpAny_BinOp (binT ha hb I h fun v u s2 x y H2 I2 rx ry q => ho pins s2 σ H2 x y v u Q I2 rx ry q)
theorem pe_un {op : UnaryOp} {r : V → Hp → VK → Prop} (ho : UnR X (unaryOp op) r) (ha : PE X a ta) : PE X (.UnaryOp op a pos) (tUn r ta) := by
  intro pins s σ H Q I h
  exact UnaryOp_ (thn (ha pins s σ H _ I h) fun v s1 ⟨x, H1, I1, r1, q1⟩ => ho pins s1 σ H1 x v Q I1 r1 q1)
theorem opI {f : Value → Value → Sem Value} {C : Int → Int → Prop} {g : Int → Int → Int}
    (rule : ∀ (i j : Int) (t u : Tok) (s : Shared) (Q : Value → Shared → Prop) (E : Value → Shared → Prop), C i j → Q (.int (g i j) s.toks) { s with toks := s.toks + 1 } → wpAny (model X.prog X.w) X.A (f (.int i t) (.int j u)) Q E s) :
    OpR X f (rI C fun i j => .int (g i j)) := by
  intro pins s σ H x y v u Q I rx ry h
  obtain ⟨i, j, rfl, rfl, hc, q⟩ := h
  obtain ⟨t, rfl⟩ := rx
  obtain ⟨t', rfl⟩ := ry
  exact rule i j t t' s _ _ hc ⟨.int (g i j), H, I.tok _, ⟨_, rfl⟩, q⟩
theorem opI0 {f : Value → Value → Sem Value} {g : Int → Int → Int}
    (rule : ∀ (i j : Int) (t u : Tok) (s : Shared) (Q : Value → Shared → Prop) (E : Value → Shared → Prop), Q (.int (g i j) s.toks) { s with toks := s.toks + 1 } → wpAny (model X.prog X.w) X.A (f (.int i t) (.int j u)) Q E s) :
    OpR X f (rI0 fun i j => .int (g i j)) := by
  intro pins s σ H x y v u Q I rx ry h
  obtain ⟨i, j, rfl, rfl, q⟩ := h
  obtain ⟨t, rfl⟩ := rx
  obtain ⟨t', rfl⟩ := ry
  exact rule i j t t' s _ _ ⟨.int (g i j), H, I.tok _, ⟨_, rfl⟩, q⟩
theorem opB0 {f : Value → Value → Sem Value} {g : Int → Int → Bool}
    (rule : ∀ (i j : Int) (t u : Tok) (s : Shared) (Q : Value → Shared → Prop) (E : Value → Shared → Prop), Q (.bool (g i j)) s → wpAny (model X.prog X.w) X.A (f (.int i t) (.int j u)) Q E s) :
    OpR X f (rI0 fun i j => .bl (g i j)) := by
  intro pins s σ H x y v u Q I rx ry h
  obtain ⟨i, j, rfl, rfl, q⟩ := h
  obtain ⟨t, rfl⟩ := rx
  obtain ⟨t', rfl⟩ := ry
  exact rule i j t t' s _ _ ⟨.bl (g i j), H, I, rfl, q⟩

def CDiv (i j : Int) : Prop := 0 < j ∧ j < 1073741824
def CPow (i j : Int) : Prop := 0 ≤ j ∧ j ≤ 1000000 ∧ i.natAbs < 2 ^ 64
def CMul (i j : Int) : Prop := (-(2 ^ 64) < i ∧ i < 2 ^ 64) ∨ (-(2 ^ 64) < j ∧ j < 2 ^ 64)
theorem CMul.ok {i j : Int} (h : CMul i j) : IntMulOk i j := by
  rcases h with ⟨h1, h2⟩ | ⟨h1, h2⟩
  · exact .of_left (intBits_le_64 h1 h2)
  · exact .of_right (intBits_le_64 h1 h2)
theorem op_add : OpR X (binaryOp .Add) (rI0 fun i j => .int (i + j)) := opI0 fun _ _ _ _ _ _ _ q => add_int q
theorem op_sub : OpR X (binaryOp .Sub) (rI0 fun i j => .int (i - j)) := opI0 fun _ _ _ _ _ _ _ q => sub_int q
theorem op_mul : OpR X (binaryOp .Mult) (rI CMul fun i j => .int (i * j)) := opI fun _ _ _ _ _ _ _ hc q => mul_int q hc.ok
/-- // by a positive divisor -/
theorem op_fdiv : OpR X (binaryOp .FloorDiv) (rI CDiv fun i j => .int (i / j)) := opI fun i j _ _ _ _ _ hc q => by
  have h1 : (0 : Int) < j := hc.1
  have h2 : j < 1073741824 := hc.2
  exact floordiv_int (by omega) (by rw [Int.fdiv_eq_ediv_of_nonneg i (by omega)]; exact q) (.inl (PyProof.noPylong_small (by omega)))
/-- % by a positive divisor of any size -/
theorem op_mod : OpR X (binaryOp .Mod) (rI (fun _ j => 0 < j) fun i j => .int (i % j)) := opI fun i j _ _ _ _ _ hc q => by
  have h1 : (0 : Int) < j := hc
  exact mod_int' (by omega) (by rw [Int.fmod_eq_emod_of_nonneg i (by omega)]; exact q)
theorem op_pow : OpR X (binaryOp .Pow) (rI CPow fun i j => .int (i ^ j.toNat)) := opI fun _ _ _ _ _ _ _ hc q => pow_int_small hc.1 hc.2.1 hc.2.2 q
theorem unI {f : Value → Sem Value} {g : Int → Int}
    (rule : ∀ (i : Int) (t : Tok) (s : Shared) (Q : Value → Shared → Prop) (E : Value → Shared → Prop), Q (.int (g i) s.toks) { s with toks := s.toks + 1 } → wpAny (model X.prog X.w) X.A (f (.int i t)) Q E s) :
    UnR X f (rU fun i => .int (g i)) := by
  intro pins s σ H x v Q I rx h
  obtain ⟨i, rfl, q⟩ := h
  obtain ⟨t, rfl⟩ := rx
  exact rule i t s _ _ ⟨.int (g i), H, I.tok _, ⟨_, rfl⟩, q⟩
theorem un_neg : UnR X (unaryOp .USub) (rU fun i => .int (-i)) := unI fun _ _ _ _ _ q => neg_int q
end

/-- the scalars that == tells apart as data does -/
def scal : V → V → Bool
  | .non, .non => true | .non, .int _ => true | .int _, .non => true | .non, .bl _ => true | .bl _, .non => true | .non, .str _ => true | .str _, .non => true
  | .int _, .int _ => true | .bl _, .bl _ => true | .str _, .str _ => true | .byt _, .byt _ => true
  | .int _, .str _ => true | .str _, .int _ => true | .bl _, .str _ => true | .str _, .bl _ => true
  | _, _ => false
def rEq : R2 := fun x y H Q => scal x y = true ∧ Q (.bl (decide (x = y))) H
def rNe : R2 := fun x y H Q => scal x y = true ∧ Q (.bl (!decide (x = y))) H

theorem dec_int {i j : Int} : decide (V.int i = V.int j) = (i == j) := by
  rw [Bool.eq_iff_iff]
  simp
theorem dec_bl {i j : Bool} : decide (V.bl i = V.bl j) = (i == j) := by
  rw [Bool.eq_iff_iff]
  simp
theorem dec_str {i j : Str} : decide (V.str i = V.str j) = (i == j) := by
  rw [Bool.eq_iff_iff]
  simp
theorem dec_byt {i j : Array UInt8} : decide (V.byt i = V.byt j) = (i.toList == j.toList) := by
  rw [Bool.eq_iff_iff]
  cases i
  cases j
  simp

section
variable {X : Cx} {a b c : Expr} {ta tb tc : TE} {pos : Pos}
theorem fin_bl {pins : List (Addr × Obj)} {σ : St} {H : Hp} {s : Shared} {Q : VK} {k k' : Bool} (I : Inv X pins σ H s) (q : Q (.bl k) H) (e : k = k') : EP X pins σ Q (.bool k') s := by
  subst e
  exact ⟨.bl k, H, I, rfl, q⟩
theorem op_eq : OpR X (compareOp .Eq) rEq := by
  intro pins s σ H x y v u Q I rx ry h
  obtain ⟨hs, q⟩ := h
  cases x with
  | non =>
    cases rx
    cases y with
    | non => cases ry; exact PySem.EqNone.eq_none_none (fin_bl I q (by simp))
    | bl j => cases ry; exact PySem.EqNone.eq_none_bool (fin_bl I q (by simp))
    | int j => obtain ⟨t', rfl⟩ := ry; exact PySem.EqNone.eq_none_int (fin_bl I q (by simp))
    | str j => obtain ⟨t', rfl⟩ := ry; exact PySem.EqNone.eq_none_str (fin_bl I q (by simp))
    | _ => exact absurd (show false = true from hs) Bool.false_ne_true
  | bl i =>
    cases rx
    cases y with
    | non => cases ry; exact PySem.EqNone.eq_bool_none (fin_bl I q (by simp))
    | bl j => cases ry; exact eq_bool (fin_bl I q dec_bl)
    | str j => obtain ⟨t', rfl⟩ := ry; exact PySem.EqMixed.eq_bool_str (fin_bl I q (by simp))
    | _ => exact absurd (show false = true from hs) Bool.false_ne_true
  | int i =>
    obtain ⟨t, rfl⟩ := rx
    cases y with
    | non => cases ry; exact PySem.EqNone.eq_int_none (fin_bl I q (by simp))
    | int j => obtain ⟨t', rfl⟩ := ry; exact eq_int (fin_bl I q dec_int)
    | str j => obtain ⟨t', rfl⟩ := ry; exact PySem.EqMixed.eq_int_str (fin_bl I q (by simp))
    | _ => exact absurd (show false = true from hs) Bool.false_ne_true
  | str i =>
    obtain ⟨t, rfl⟩ := rx
    cases y with
    | non => cases ry; exact PySem.EqNone.eq_str_none (fin_bl I q (by simp))
    | bl j => cases ry; exact PySem.EqMixed.eq_str_bool (fin_bl I q (by simp))
    | int j => obtain ⟨t', rfl⟩ := ry; exact PySem.EqMixed.eq_str_int (fin_bl I q (by simp))
    | str j => obtain ⟨t', rfl⟩ := ry; exact eq_str (fin_bl I q dec_str)
    | _ => exact absurd (show false = true from hs) Bool.false_ne_true
  | byt i =>
    obtain ⟨t, rfl⟩ := rx
    cases y with
    | byt j => obtain ⟨t', rfl⟩ := ry; exact PySem.W.eq_bytes (fin_bl I q dec_byt)
    | _ => exact absurd (show false = true from hs) Bool.false_ne_true
  | _ => cases y <;> exact absurd (show false = true from hs) Bool.false_ne_true
theorem op_ne : OpR X (compareOp .NotEq) rNe := by
  intro pins s σ H x y v u Q I rx ry h
  obtain ⟨hs, q⟩ := h
  cases x with
  | non =>
    cases rx
    cases y with
    | non => cases ry; exact PySem.EqNone.ne_none_none (fin_bl I q (by simp))
    | bl j => cases ry; exact PySem.EqNone.ne_none_bool (fin_bl I q (by simp))
    | int j => obtain ⟨t', rfl⟩ := ry; exact PySem.EqNone.ne_none_int (fin_bl I q (by simp))
    | str j => obtain ⟨t', rfl⟩ := ry; exact PySem.EqNone.ne_none_str (fin_bl I q (by simp))
    | _ => exact absurd (show false = true from hs) Bool.false_ne_true
  | bl i =>
    cases rx
    cases y with
    | non => cases ry; exact PySem.EqNone.ne_bool_none (fin_bl I q (by simp))
    | bl j => cases ry; exact ne_bool (fin_bl I q (congrArg not dec_bl))
    | str j => obtain ⟨t', rfl⟩ := ry; exact PySem.EqMixed.ne_bool_str (fin_bl I q (by simp))
    | _ => exact absurd (show false = true from hs) Bool.false_ne_true
  | int i =>
    obtain ⟨t, rfl⟩ := rx
    cases y with
    | non => cases ry; exact PySem.EqNone.ne_int_none (fin_bl I q (by simp))
    | int j => obtain ⟨t', rfl⟩ := ry; exact ne_int (fin_bl I q (congrArg not dec_int))
    | str j => obtain ⟨t', rfl⟩ := ry; exact PySem.EqMixed.ne_int_str (fin_bl I q (by simp))
    | _ => exact absurd (show false = true from hs) Bool.false_ne_true
  | str i =>
    obtain ⟨t, rfl⟩ := rx
    cases y with
    | non => cases ry; exact PySem.EqNone.ne_str_none (fin_bl I q (by simp))
    | bl j => cases ry; exact PySem.EqMixed.ne_str_bool (fin_bl I q (by simp))
    | int j => obtain ⟨t', rfl⟩ := ry; exact PySem.EqMixed.ne_str_int (fin_bl I q (by simp))
    | str j => obtain ⟨t', rfl⟩ := ry; exact ne_str (fin_bl I q (congrArg not dec_str))
    | _ => exact absurd (show false = true from hs) Bool.false_ne_true
  | byt i =>
    obtain ⟨t, rfl⟩ := rx
    cases y with
    | byt j => obtain ⟨t', rfl⟩ := ry; exact PySem.W.ne_bytes (fin_bl I q (congrArg not dec_byt))
    | _ => exact absurd (show false = true from hs) Bool.false_ne_true
  | _ => cases y <;> exact absurd (show false = true from hs) Bool.false_ne_true

theorem op_lt : OpR X (compareOp .Lt) (rI0 fun i j => .bl (decide (i < j))) := opB0 fun _ _ _ _ _ _ _ q => lt_int q
theorem op_le : OpR X (compareOp .LtE) (rI0 fun i j => .bl (decide (i ≤ j))) := opB0 fun _ _ _ _ _ _ _ q => le_int q
theorem op_gt : OpR X (compareOp .Gt) (rI0 fun i j => .bl (decide (j < i))) := opB0 fun _ _ _ _ _ _ _ q => gt_int q
theorem op_ge : OpR X (compareOp .GtE) (rI0 fun i j => .bl (decide (j ≤ i))) := opB0 fun _ _ _ _ _ _ _ q => ge_int q
/-- is None, is not None: the right side a value none -/
theorem op_isN : OpR X (compareOp .Is) (fun x y H Q => y = .non ∧ Q (.bl (decide (x = .non))) H) := by
  intro pins s σ H x y v u Q I rx ry h
  obtain ⟨rfl, q⟩ := h
  cases ry
  refine is_none_gen (fin_bl I q ?_)
  cases x <;> first
    | (cases rx; rfl)
    | (obtain ⟨t, rfl⟩ := rx; rfl)
/-- two rules for one operation: by cases -/
theorem OpR.or {f : Value → Value → Sem Value} {r r' : R2} (h : OpR X f r) (h' : OpR X f r') : OpR X f (fun x y H Q => r x y H Q ∨ r' x y H Q) := by
  intro pins s σ H x y v u Q I rx ry q
  rcases q with q | q
  · exact h pins s σ H x y v u Q I rx ry q
  · exact h' pins s σ H x y v u Q I rx ry q

theorem nomark (b : Expr) {op : CmpOp} (h : op ≠ .In := by decide) (h2 : op ≠ .NotIn := by decide) : behindInMarks op b = false := by
  have e1 : (op == CmpOp.In) = false := by cases op <;> first | rfl | exact absurd rfl h
  have e2 : (op == CmpOp.NotIn) = false := by cases op <;> first | rfl | exact absurd rfl h2
  cases b <;> simp [behindInMarks, e1, e2]
/-- a comparison as a value; hm: nomark b, or (for in, not in) by with_unfolding_all rfl -/
theorem pe_cmpR {op : CmpOp} {r : R2} (ho : OpR X (compareOp op) r) (ha : PE X a ta) (hb : PE X b tb) (hm : behindInMarks op b = false) : PE X (.Compare a [op] [b] pos) (tOp r ta tb) := by
  intro pins s σ H Q I h
  exact wpAny_Compare1 (binT ha hb I h fun v u s2 x y H2 I2 rx ry q => ho pins s2 σ H2 x y v u Q I2 rx ry q) hm
/-- a reading of a value as a test -/
def tTest (t : TE) : TT := fun σ H Q => t σ H fun x H' => ∃ k, x = .bl k ∧ Q k H'
theorem pt_cmpR {op : CmpOp} {r : R2} (ho : OpR X (compareOp op) r) (ha : PE X a ta) (hb : PE X b tb) (hm : behindInMarks op b = false) : PT X (.Compare a [op] [b] pos) (tTest (tOp r ta tb)) := by
  intro pins s σ H Q I h
  refine wpAny_isTrue_Compare1 (thn (ha pins s σ H _ I h) fun v s1 ⟨x, H1, I1, r1, q1⟩ => thn (hb pins s1 σ H1 _ I1 q1) fun u s2 ⟨y, H2, I2, r2, q2⟩ =>
    thn (ho pins s2 σ H2 x y v u _ I2 r1 r2 q2) fun c s3 ⟨z, H3, I3, r3, k, e, q3⟩ => ?_) hm
  subst e
  cases r3
  exact wpAny_truthy_bool ⟨H3, I3, q3⟩
/-- a op1 b op2 c -/
def tChain (r r' : R2) (ta tb tc : TE) : TE := fun σ H Q => ta σ H fun x H1 => tb σ H1 fun y H2 => r x y H2 fun z H3 => ∃ k, z = .bl k ∧
  (if k = true then tc σ H3 fun w' H4 => r' y w' H4 Q else Q (.bl false) H3)
theorem pt_chain {op op' : CmpOp} {r r' : R2} (ho : OpR X (compareOp op) r) (ho' : OpR X (compareOp op') r') (ha : PE X a ta) (hb : PE X b tb) (hc : PE X c tc)
    (hm : lastMarks [op, op'] [b, c] = false := by with_unfolding_all rfl) : PT X (.Compare a [op, op'] [b, c] pos) (tTest (tChain r r' ta tb tc)) := by
  intro pins s σ H Q I h
  refine isTrue_chain (thn (ha pins s σ H _ I h) fun v s1 ⟨x, H1, I1, r1, q1⟩ => test_link (thn (hb pins s1 σ H1 _ I1 q1) fun u s2 ⟨y, H2, I2, r2, q2⟩ =>
    thn (ho pins s2 σ H2 x y v u _ I2 r1 r2 q2) fun d s3 ⟨z, H3, I3, r3, k, e, q3⟩ => ?_)) hm
  subst e
  cases r3
  refine wpAny_truthy_bool ?_
  cases k with
  | false =>
    obtain ⟨k', e', q'⟩ := q3
    cases e'
    exact ite_ff ⟨H3, I3, q'⟩
  | true =>
    refine ite_tt (test_last (thn (hc pins s3 σ H3 _ I3 q3) fun w' s4 ⟨z', H4, I4, r4, q4⟩ => thn (ho' pins s4 σ H4 y z' u w' _ I4 r2 r4 q4) fun d' s5 ⟨z2, H5, I5, r5, k2, e2, q5⟩ => ?_))
    subst e2
    cases r5
    exact wpAny_truthy_bool ⟨H5, I5, q5⟩

/-- a value's truth by the abstract heap -/
def TruV (K : PySem.W.Frag) (x : V) (H : Hp) (k : Bool) : Prop :=
  match x with
  | .non => k = false
  | .bl b => k = b
  | .int i => k = (i != 0)
  | .str y => y.length ≤ sizeLine ∧ k = ((y.length : Int) != 0)
  | .byt y => y.size ≤ sizeLine ∧ k = ((y.size : Int) != 0)
  | .ref p => (∃ xs, SqL K H p xs ∧ k = !xs.isEmpty) ∨ (∃ xs, SqT K H p xs ∧ k = !xs.isEmpty) ∨ ∃ kvs, H p = some (.dK kvs) ∧ k = !kvs.isEmpty
  | _ => False
theorem isEmpty_kv {κ : Type} {kvs : List (κ × V)} {vs : List (κ × Value)} (r : KV kvs vs) : (!vs.isEmpty) = !kvs.isEmpty := by
  cases r <;> rfl
theorem isEmpty_of {xs : List V} {its : List Value} (r : Vals xs its) : (!its.toArray.isEmpty) = !xs.isEmpty := by
  cases r <;> simp
theorem line63 : (sizeLine : Nat) < 2 ^ 63 := by rw [sizeLine_eq]; decide
theorem tru_ok : TruR X (fun x H Q => ∃ k, TruV X.K x H k ∧ Q k H) := by
  intro pins s σ H x v Q I rx h
  obtain ⟨k, e, q⟩ := h
  have hl := line63
  have hs : sizeLine = 16777216 := sizeLine_eq
  cases x with
  | non =>
    cases rx
    have e' : k = false := e
    subst e'
    exact truthy_none ⟨H, I, q⟩
  | bl b =>
    cases rx
    have e' : k = b := e
    subst e'
    exact wpAny_truthy_bool ⟨H, I, q⟩
  | int i =>
    obtain ⟨t, rfl⟩ := rx
    have e' : k = (i != 0) := e
    subst e'
    exact PySem.P.truthy_int ⟨H, I, q⟩
  | str y =>
    obtain ⟨t, rfl⟩ := rx
    obtain ⟨hy, e'⟩ : y.length ≤ sizeLine ∧ k = ((y.length : Int) != 0) := e
    subst e'
    exact PySem.P.truthy_str (by omega) ⟨H, I.tok _, q⟩
  | byt y =>
    obtain ⟨t, rfl⟩ := rx
    obtain ⟨hy, e'⟩ : y.size ≤ sizeLine ∧ k = ((y.size : Int) != 0) := e
    subst e'
    exact PySem.W.truthy_bytes (by omega) ⟨H, I.tok _, q⟩
  | ref p =>
    cases rx
    have e' : (∃ xs, SqL X.K H p xs ∧ k = !xs.isEmpty) ∨ (∃ xs, SqT X.K H p xs ∧ k = !xs.isEmpty) ∨ ∃ kvs, H p = some (.dK kvs) ∧ k = !kvs.isEmpty := e
    rcases e' with ⟨xs, hx, e'⟩ | ⟨xs, hx, e'⟩ | ⟨kvs, hx, e'⟩
    · subst e'
      obtain ⟨its, r, pl, hz⟩ := I.list hx
      have hlen := r.length
      exact wpAny_truthy_list pl.isList (by simp only [List.size_toArray]; omega) ⟨H, I.tok _, by rw [isEmpty_of r]; exact q⟩
    · subst e'
      obtain ⟨its, r, pl, hz⟩ := I.tuple hx
      have hlen := r.length
      exact truthy_tuple pl (by simp only [List.size_toArray]; omega) ⟨H, I.tok _, by rw [isEmpty_of r]; exact q⟩
    · subst e'
      obtain ⟨hz, hS, vs, r, m⟩ : kvs.length ≤ sizeLine ∧ (p == sysModules) = false ∧ ∃ vs, KV kvs vs ∧ s.heap.DictOf (mixKind X.prog X.w) p vs := I.hok p _ hx
      have hlen : kvs.length = vs.length := Paired.length r
      exact wpAny_truthy_dict hS m (by omega) ⟨H, I.tok _, by rw [isEmpty_kv r]; exact q⟩
  | _ => exact (show False from e).elim
/-- any expression whose test is its value's truth (a name, a call, a subscript, a field ..: he by fun _ => rfl) -/
theorem pt_truth (ha : PE X a ta) (he : ∀ whole, isTrue a X.env whole = (do let v ← whole; standAt a.pos; holding [v] (truthy v))) :
    PT X a (fun σ H Q => ta σ H fun x H' => ∃ k, TruV X.K x H' k ∧ Q k H') := by
  intro pins s σ H Q I h
  exact isTrue_plain (thn (ha pins s σ H _ I h) fun v s1 ⟨x, H1, I1, r1, q1⟩ => tru_ok pins s1 σ H1 x v Q I1 r1 q1) (he _)

theorem vals1 {x : V} {us : List Value} (r : Vals [x] us) : ∃ u, us = [u] ∧ RelV x u := by
  cases r with
  | cons r1 r2 => cases r2; exact ⟨_, rfl, r1⟩
theorem vals2 {x y : V} {us : List Value} (r : Vals [x, y] us) : ∃ u w', us = [u, w'] ∧ RelV x u ∧ RelV y w' := by
  cases r with
  | cons r1 r2 =>
    cases r2 with
    | cons r3 r4 => cases r4; exact ⟨_, _, rfl, r1, r3⟩
theorem call_abs : CallR X (.builtin "abs") (fun xs H Q => ∃ i, xs = [.int i] ∧ Q (.int (if i < 0 then -i else i)) H) := by
  intro pins s σ H xs us Q I r h
  obtain ⟨i, rfl, q⟩ := h
  obtain ⟨u, rfl, t, rfl⟩ := vals1 r
  exact call_abs_int fun u tk => ⟨.int (if i < 0 then -i else i), H, I.tok _, ⟨_, rfl⟩, q⟩
theorem call_max2 (hc : X.calm = true) : CallR X (.builtin "max") (fun xs H Q => ∃ i j, xs = [.int i, .int j] ∧ Q (.int (if j > i then j else i)) H) := by
  intro pins s σ H xs us Q I r h
  obtain ⟨i, j, rfl, q⟩ := h
  obtain ⟨u, w', rfl, ⟨t, rfl⟩, ⟨t', rfl⟩⟩ := vals2 r
  refine max_two_ints (I.ok.hd hc) fun h' tk k => ⟨_, H, I.kept k, ?_, q⟩
  by_cases hj : j > i
  · rw [if_pos hj, if_pos hj]; exact ⟨_, rfl⟩
  · rw [if_neg hj, if_neg hj]; exact ⟨_, rfl⟩
theorem call_min2 (hc : X.calm = true) : CallR X (.builtin "min") (fun xs H Q => ∃ i j, xs = [.int i, .int j] ∧ Q (.int (if j < i then j else i)) H) := by
  intro pins s σ H xs us Q I r h
  obtain ⟨i, j, rfl, q⟩ := h
  obtain ⟨u, w', rfl, ⟨t, rfl⟩, ⟨t', rfl⟩⟩ := vals2 r
  refine min_two_ints (I.ok.hd hc) fun h' tk k => ⟨_, H, I.kept k, ?_, q⟩
  by_cases hj : j < i
  · rw [if_pos hj, if_pos hj]; exact ⟨_, rfl⟩
  · rw [if_neg hj, if_neg hj]; exact ⟨_, rfl⟩
theorem call_int1 : CallR X (.type "int") (fun xs H Q => (∃ i, xs = [.int i] ∧ Q (.int i) H) ∨ ∃ k, xs = [.bl k] ∧ Q (.int (if k then 1 else 0)) H) := by
  intro pins s σ H xs us Q I r h
  rcases h with ⟨i, rfl, q⟩ | ⟨k, rfl, q⟩
  · obtain ⟨u, rfl, t, rfl⟩ := vals1 r
    exact call_int_int ⟨.int i, H, I, ⟨_, rfl⟩, q⟩
  · obtain ⟨u, rfl, r1⟩ := vals1 r
    cases r1
    exact call_int_bool ⟨.int (if k then 1 else 0), H, I.tok _, ⟨_, rfl⟩, q⟩
end
end L2

namespace L2
open PySem PySem.Spec PyProof.Rows

structure ObjM (h : Heap) (x dx C : Addr) (mA : Str → Option Value) : Prop where
  obj : h.get? x = some (PySem.W.instObj C dx)
  ns : h.Ns1 dx mA
  ne : dx ≠ x

theorem lookIn_ns {h : Heap} {dx : Addr} {mA : Str → Option Value} (n : h.Ns1 dx mA) : ∃ od, h.get? dx = some od ∧ ∀ name, PySem.W.lookIn name od = some (mA name) := by
  obtain ⟨o, es, ep, ho, hd, hk, _, hm⟩ := n
  refine ⟨o, ho, fun name => ?_⟩
  have e := hm name
  unfold nsFind findBy at e
  rw [← Array.find?_toList] at e
  unfold PySem.W.lookIn
  rw [hd]
  dsimp only
  split
  · rename_i y q
    rw [q] at e
    exact congrArg some e
  · rename_i q
    rw [q] at e
    have a : es.toList.any (·.refKey) = false := by
      rw [List.any_eq_false]
      intro y hy
      obtain ⟨z, t, hkey⟩ := hk y (Array.mem_toList_iff.mp hy)
      simp [DictEntry.refKey, hkey]
    have a' : ¬ es.toList.any (·.refKey) = true := by rw [a]; exact Bool.false_ne_true
    rw [if_neg a']
    exact congrArg some e

theorem ObjM.look {h : Heap} {x dx C : Addr} {mA : Str → Option Value} (I : ObjM h x dx C mA) : ∃ od, PySem.W.InstAt h x (PySem.W.instObj C dx) C (some od) ∧ ∀ name, PySem.W.lookIn name od = some (mA name) :=
  let ⟨od, ho, hl⟩ := lookIn_ns I.ns
  ⟨od, ⟨I.obj, rfl, rfl, ho⟩, hl⟩

section
variable {prog : Program} {w : World} {A : Around} {E : Value → Shared → Prop} {s : Shared} {K : PySem.W.Frag} {x dx C f : Addr} {mA : Str → Option Value} {name : Str} {v : Value}

theorem get_map {expr : Bool} {Q : Value → Shared → Prop} (X : K.In s.heap) (I : ObjM s.heap x dx C mA) (hg : PySem.W.plainGet K C name = true) (hh : PySem.W.hasDictIn K C = true)
    (ha : PySem.W.findIn K (.ref C) name = some none) (hv : mA name = some v) (hv' : PySem.W.handedIn v = true) (h : Q v { s with toks := s.toks + 1 }) :
    wpAny (model prog w) A (getAttr (.ref x) name expr) Q E s := by
  obtain ⟨od, J, hl⟩ := I.look
  exact PySem.W.get_value X J (PySem.W.plainGet_of hg).1 (PySem.W.findObj_own hh ha rfl (by rw [hl, hv])) hv' h

theorem get_meth {pl : Sem Bool} {Q : Value × List Value → Shared → Prop} (X : K.In s.heap) (I : ObjM s.heap x dx C mA) (hg : PySem.W.plainGet K C name = true)
    (hf : PySem.W.findIn K (.ref C) name = some (some (.ref f))) (ht : PySem.W.isFn K (.ref f) = true) (hv : mA name = none) (h : Q (.ref f, [.ref x]) s) :
    wpAny (model prog w) A (getMethod (.ref x) name pl) Q E s := by
  obtain ⟨od, J, hl⟩ := I.look
  exact PySem.W.method_fn X J (PySem.W.plainGet_of hg).1 (PySem.W.plainGet_of hg).2 hf (beq_iff_eq.mp ht) (by show (PySem.W.lookIn name od).map (·.isSome) = some false; rw [hl, hv]; rfl) h

theorem set_map {ns : List Str} {Q : Unit → Shared → Prop} (X : K.In s.heap) (I : ObjM s.heap x dx C mA)
    (hs : PySem.W.findIn K (.ref C) "__setattr__" = some (some (.builtin "object.__setattr__"))) (hp : PySem.W.plainOver K C = true) (ht : PySem.W.takerIn K C name = some none) (hh : PySem.W.hasDictIn K C = true)
    (hw : PySem.Within mA ns) (hsz : ns.length ≤ sizeLine)
    (h : ∀ h', ObjM h' x dx C (fun y => if y = name then some v else mA y) → Heap.SameBut dx s.heap h' → Q () { s with heap := h', toks := s.toks + 2 }) :
    wpAny (model prog w) A (setAttr (.ref x) name v) Q E s := by
  obtain ⟨od, J, hl⟩ := I.look
  refine PySem.W.set_plain X J hs (PySem.W.osa_open (s := { s with toks := s.toks + 1 }) (r := none) X J hp ht fun b => ?_)
  obtain ⟨cd, hc, hd'⟩ := PySem.W.any_some hh
  have hx : s.heap.get? x = some ⟨.ref C, some dx, .plain, #[]⟩ := I.obj
  refine wpAny_bind (wpAny_pure (wpAny_bind (wpAny_bind (wpAny_loadPart hx (wpAny_bind (PySem.W.Looks.here (s := { s with toks := s.toks + 1 }) (PySem.W.looks_clsIn X hc) ?_))))))
  rw [hd']
  refine wpAny_pure (a := some dx) (wpAny_bind (wpAny_pure (wpAny_bind ?_)))
  refine wpAny_nsSet1 (s := { s with toks := s.toks + 1 }) I.ns fun h' hn2 hs2 => ?_
  obtain ⟨oD, esD, epD, hoD, hdD, hcD⟩ := hn2.count (PySem.Within.cons name v hw)
  refine wpAny_bind (wpAny_lookBehind hoD (by rw [hdD]; exact pastItsLine_dict (Nat.le_trans hcD (by rw [List.length_cons]; omega))) ?_)
  exact wpAny_pure (h _ ⟨(hs2.2 _ (Ne.symm I.ne)).trans I.obj, hn2, I.ne⟩ hs2)

/-- C(..): the dict at the heap's end, the instance behind it; then its __init__ -/
theorem make_map {R : Result → Shared → Prop} {vs : List Value} {kw : List (Str × Value)} (X : K.In s.heap) (hm : PySem.W.makesIn K C = true)
    (hi : PySem.W.findIn K (.ref C) "__init__" = some (some (.ref f))) (hf : PySem.W.typeIn K (.ref f) = some (.type "function"))
    (h : codeAny (model prog w) (A.under (.builtin "type.__call__" ⟨.ref C :: vs, kw⟩)) (.call (.ref f) ⟨.ref (s.heap.objs.size + 1) :: vs, kw⟩) (PySem.W.InitBack (s.heap.objs.size + 1) R)
      { s with heap := (s.heap.push PySem.W.emptyDict).push (PySem.W.instObj C s.heap.objs.size) }) :
    codeAny (model prog w) A (.call (.ref C) ⟨vs, kw⟩) R s := by
  obtain ⟨hh, g, d, t, os⟩ := s
  exact PySem.W.make_core (PySem.W.makes_of X hm) (PySem.W.looks_findIn X hi) (fun self => PySem.W.bind_fn X self hf) (.inl rfl) h
end

def putF (f : Str) (v : V) : List (Str × V) → List (Str × V)
  | [] => [(f, v)]
  | (g, x) :: r => if g = f then (g, v) :: r else (g, x) :: putF f v r
theorem lookup_putF (f g : Str) (v : V) : ∀ fs : List (Str × V), (putF f v fs).lookup g = if g = f then some v else fs.lookup g
  | [] => by
    show List.lookup g [(f, v)] = _
    by_cases h : g = f
    · have hb : (g == f) = true := beq_iff_eq.mpr h
      simp only [List.lookup, hb, if_pos h]
    · have hb : (g == f) = false := beq_eq_false_iff_ne.mpr h
      simp only [List.lookup, hb, if_neg h]
  | (k, x) :: r => by
    have ih := lookup_putF f g v r
    rw [show putF f v ((k, x) :: r) = (if k = f then (k, v) :: r else (k, x) :: putF f v r) from rfl]
    by_cases hk : k = f
    · rw [if_pos hk]
      by_cases h : g = k
      · have hb : (g == k) = true := beq_iff_eq.mpr h
        simp only [List.lookup, hb, if_pos (h.trans hk)]
      · have hb : (g == k) = false := beq_eq_false_iff_ne.mpr h
        simp only [List.lookup, hb, if_neg (fun e : g = f => h (e.trans hk.symm))]
    · rw [if_neg hk]
      by_cases h : g = k
      · have hb : (g == k) = true := beq_iff_eq.mpr h
        simp only [List.lookup, hb, if_neg (fun e : g = f => hk (h.symm.trans e))]
      · have hb : (g == k) = false := beq_eq_false_iff_ne.mpr h
        simp only [List.lookup, hb]
        exact ih
theorem keys_putF (f : Str) (v : V) : ∀ fs : List (Str × V), f ∈ (putF f v fs).map (·.1) ∧ ∀ g, g ∈ fs.map (·.1) → g ∈ (putF f v fs).map (·.1)
  | [] => ⟨by simp [putF], fun g h => by simp at h⟩
  | (k, x) :: r => by
    obtain ⟨i1, i2⟩ := keys_putF f v r
    rw [show putF f v ((k, x) :: r) = (if k = f then (k, v) :: r else (k, x) :: putF f v r) from rfl]
    by_cases hk : k = f
    · rw [if_pos hk]
      subst hk
      exact ⟨by simp, fun g h => by simpa using h⟩
    · rw [if_neg hk]
      refine ⟨?_, fun g h => ?_⟩
      · rw [List.map_cons]
        exact List.mem_cons_of_mem _ i1
      · rw [List.map_cons] at h ⊢
        rcases List.mem_cons.mp h with e | e
        · exact List.mem_cons.mpr (.inl e)
        · exact List.mem_cons_of_mem _ (i2 g e)
theorem length_putF (f : Str) (v : V) : ∀ fs : List (Str × V), (putF f v fs).length ≤ fs.length + 1
  | [] => by simp [putF]
  | (k, x) :: r => by
    have ih := length_putF f v r
    rw [show putF f v ((k, x) :: r) = (if k = f then (k, v) :: r else (k, x) :: putF f v r) from rfl]
    by_cases hk : k = f
    · rw [if_pos hk, List.length_cons, List.length_cons]; omega
    · rw [if_neg hk, List.length_cons, List.length_cons]; omega

theorem RelO.some_of {v : V} {o : Option Value} (r : RelO (some v) o) : ∃ u, o = some u ∧ RelV v u := by
  cases o with
  | none => exact (show False from r).elim
  | some u => exact ⟨u, rfl, r⟩
theorem RelO.none_of {o : Option Value} (r : RelO none o) : o = none := by
  cases o with
  | none => rfl
  | some u => exact (show False from r).elim
theorem handed_of {v : V} {u : Value} (r : RelV v u) : PySem.W.handedIn u = true := by
  cases v with
  | non => cases (show u = Value.none from r); rfl
  | bl b => cases (show u = Value.bool b from r); rfl
  | int i => obtain ⟨t, e⟩ := (show ∃ t, u = Value.int i t from r); cases e; rfl
  | str x => obtain ⟨t, e⟩ := (show ∃ t, u = Value.str x t from r); cases e; rfl
  | byt b => obtain ⟨t, e⟩ := (show ∃ t, u = Value.bytes b t from r); cases e; rfl
  | flt b => obtain ⟨t, e⟩ := (show ∃ t, u = Value.float b t from r); cases e; rfl
  | ref a => cases (show u = Value.ref a from r); rfl
  | ty n => cases (show u = Value.type n from r); rfl

section
variable {P : Program} {w : World} {H H' : Hp} {h h' : Heap} {a C dx : Addr} {fs fs' : List (Str × V)}
theorem ins_get (hok : HOk P w H h) (e : H a = some (.ins C dx fs)) : ∃ mA, ObjM h a dx C mA ∧ (∀ f, RelO (fs.lookup f) (mA f)) ∧ PySem.Within mA (fs.map (·.1)) ∧ fs.length ≤ 1000 ∧ H dx = some (.own a) := by
  obtain ⟨d, z, ne, ob, mA, n, r, q⟩ := (show ObjOk P w H h a (.ins C dx fs) from hok a _ e)
  exact ⟨mA, ⟨ob, n, ne⟩, r, q, z, d⟩
end

structure Cls (K : PySem.W.Frag) (C : Addr) : Prop where
  pg : PySem.W.plainGet K C Str.empty = true
  hd : PySem.W.hasDictIn K C = true
  po : PySem.W.plainOver K C = true
  sa : PySem.W.findIn K (.ref C) "__setattr__" = some (some (.builtin "object.__setattr__"))
theorem Cls.get {K : PySem.W.Frag} {C : Addr} (c : Cls K C) (f : Str) : PySem.W.plainGet K C f = true := c.pg
/-- no class of it has the name -/
def NoAttr (K : PySem.W.Frag) (C : Addr) (f : Str) : Prop := PySem.W.findIn K (.ref C) f = some none
theorem NoAttr.taker {K : PySem.W.Frag} {C : Addr} {f : Str} (n : NoAttr K C f) : PySem.W.takerIn K C f = some none := by
  unfold PySem.W.takerIn
  rw [show PySem.W.findIn K (.ref C) f = some none from n]
  rfl
/-- a constant of the class -/
structure Con (K : PySem.W.Frag) (C : Addr) (f : Str) (v : V) (u : Value) : Prop where
  at_ : PySem.W.findIn K (.ref C) f = some (some u)
  rel : RelV v u
  get : PySem.W.specialIn K u "__get__" = some none
  cp : PySem.W.copiedNames.contains f = false
/-- a method: a plain def of the class or of one above it -/
structure Meth (K : PySem.W.Frag) (C : Addr) (m : Str) (f : Addr) : Prop where
  at_ : PySem.W.findIn K (.ref C) m = some (some (.ref f))
  fn : PySem.W.isFn K (.ref f) = true
  kp : PySem.W.keepIn K (.ref f) = true

section
variable {X : Cx} {pins : List (Addr × Obj)} {σ : St} {H : Hp} {s : Shared} {a C dx : Addr} {fs : List (Str × V)} {f : Str} {v : V} {A : Around} {E : Value → Shared → Prop}

theorem getattr_ok {b : Bool} {Q : Value → Shared → Prop} (I : Inv X pins σ H s) (e : H a = some (.ins C dx fs)) (c : Cls X.K C) (n : NoAttr X.K C f) (l : fs.lookup f = some v)
    (h : ∀ u s', Inv X pins σ H s' → RelV v u → Q u s') : wpAny (model X.prog X.w) A (getAttr (.ref a) f b) Q E s := by
  obtain ⟨mA, O, r, _, _, _⟩ := ins_get I.hok e
  obtain ⟨u, hu, ru⟩ := RelO.some_of (v := v) (o := mA f) (by rw [← l]; exact r f)
  exact get_map I.kIn O (c.get f) c.hd n hu (handed_of ru) (h u _ (I.tok _) ru)

theorem getmeth_ok {m : Str} {g : Addr} {pl : Sem Bool} {Q : Value × List Value → Shared → Prop} (I : Inv X pins σ H s) (e : H a = some (.ins C dx fs)) (c : Cls X.K C) (k : Meth X.K C m g) (l : fs.lookup m = none)
    (h : Q (.ref g, [.ref a]) s) : wpAny (model X.prog X.w) A (getMethod (.ref a) m pl) Q E s := by
  obtain ⟨mA, O, r, _, _, _⟩ := ins_get I.hok e
  have hn : mA m = none := RelO.none_of (by rw [← l]; exact r m)
  exact get_meth I.kIn O (c.get m) k.at_ k.fn hn h

theorem setattr_ok {y : V} {u : Value} {Q : Unit → Shared → Prop} (I : Inv X pins σ H s) (e : H a = some (.ins C dx fs)) (c : Cls X.K C) (n : NoAttr X.K C f) (hl : fs.length < 1000) (ry : RelV y u)
    (h : ∀ s', Inv X pins σ (upd H a (.ins C dx (putF f y fs))) s' → Q () s') : wpAny (model X.prog X.w) A (setAttr (.ref a) f u) Q E s := by
  obtain ⟨mA, O, r, wi, _, ho⟩ := ins_get I.hok e
  have hz : (fs.map (·.1)).length ≤ sizeLine := by rw [List.length_map, sizeLine_eq]; omega
  refine set_map I.kIn O c.sa c.po n.taker c.hd wi hz fun h' O' sb => h _ ?_
  have hd : ∃ o, h'.get? dx = some o := let ⟨o, _, _, e', _⟩ := O'.ns; ⟨o, e'⟩
  refine I.write (x := a) (e := dx) (by rw [e]; exact True.intro) (.inr ho) (fun b q hb z => (sb.2 b hb).trans z) hd ?_
  refine ⟨by rw [upd_ne O.ne]; exact ho, ?_, O.ne, O'.obj, _, O'.ns, fun g => ?_, fun g hg => ?_⟩
  · have := length_putF f y fs; omega
  · show RelO ((putF f y fs).lookup g) (if g = f then some u else mA g)
    rw [lookup_putF]
    by_cases q : g = f
    · rw [if_pos q, if_pos q]; exact ry
    · rw [if_neg q, if_neg q]; exact r g
  · by_cases q : g = f
    · rw [q]; exact (keys_putF f y fs).1
    · refine (keys_putF f y fs).2 g (wi g fun z => hg ?_)
      show (if g = f then some u else mA g) = none
      rw [if_neg q]; exact z

/-- a new instance, tracked, without attributes -/
theorem Inv.made (I : Inv X pins σ H s) : Inv X pins σ (upd (upd H s.heap.objs.size (.own (s.heap.objs.size + 1))) (s.heap.objs.size + 1) (.ins C s.heap.objs.size []))
    { s with heap := (s.heap.push PySem.W.emptyDict).push (PySem.W.instObj C s.heap.objs.size) } := by
  have e1 : (s.heap.push PySem.W.emptyDict).get? s.heap.objs.size = some PySem.W.emptyDict := Heap.get?_push_size s.heap rfl
  have e2 : ((s.heap.push PySem.W.emptyDict).push (PySem.W.instObj C s.heap.objs.size)).get? (s.heap.objs.size + 1) = some (PySem.W.instObj C s.heap.objs.size) := by
    have := Heap.get?_push_size (s.heap.push PySem.W.emptyDict) (o := PySem.W.instObj C s.heap.objs.size) rfl
    rwa [Heap.size_push] at this
  have e3 : (s.heap.push PySem.W.emptyDict).Ns s.heap.objs.size (fun _ => none) := ⟨PySem.W.emptyDict, #[], _, e1, rfl, (fun e he => absurd he (by simp)), fun _ => rfl⟩
  have I1 := I.laid (a := s.heap.objs.size) (o := .own (s.heap.objs.size + 1)) (h' := s.heap.push PySem.W.emptyDict) (t' := s.toks) (fun b u q => Heap.get?_push_of_some _ q) (Nat.le_refl _) ⟨_, e1⟩
  refine I1.laid (a := s.heap.objs.size + 1) (o := .ins C s.heap.objs.size []) (t' := s.toks) (fun b u q => Heap.get?_push_of_some _ q) (Nat.le_of_eq (Heap.size_push _ _)) ?_
  have ne : s.heap.objs.size ≠ s.heap.objs.size + 1 := Nat.ne_of_lt (Nat.lt_succ_self _)
  refine ⟨by rw [upd_ne ne, upd_same], Nat.zero_le _, ne, e2, fun _ => none, (Heap.Ns1.of_empty e3).at fun o q => Heap.get?_push_of_some _ q, fun _ => True.intro, fun y hy => absurd rfl hy⟩

/-- e.f where nothing but the object is asked: through attributeBase (super) and the last hold -/
theorem attr_of {prog : Program} {w : World} {env : Env} {e : Expr} {f : Str} {pos : Pos} {s : Shared} {Q : Value → Shared → Prop} (hb : attributeBase e f env (eval e env) = eval e env)
    (h : wpAny (model prog w) A (eval e env) (fun o s₁ => wpAny (model prog w) A (getAttr o f true) Q E s₁) E s) : wpAny (model prog w) A (eval (.Attribute e f pos) env) Q E s :=
  Attribute_any_ h (by rw [arm_eval_Attribute, hb])
end

/-- e.f, an attribute of the instance -/
def tFld (K : PySem.W.Frag) (ta : TE) (f : Str) : TE := fun σ H Q => ta σ H fun x H1 => ∃ a C dx fs v, x = .ref a ∧ H1 a = some (.ins C dx fs) ∧ Cls K C ∧ NoAttr K C f ∧ fs.lookup f = some v ∧ Q v H1
/-- e.f = value -/
def sFld (K : PySem.W.Frag) (ta tv : TE) (f : Str) : TS := fun D σ H => tv σ H fun y H1 => ta σ H1 fun x H2 => ∃ a C dx fs, x = .ref a ∧ H2 a = some (.ins C dx fs) ∧ Cls K C ∧ NoAttr K C f ∧ fs.length < 1000 ∧
  D.nx σ (upd H2 a (.ins C dx (putF f y fs)))
section
variable {X : Cx} {o e value : Expr} {f : Str} {pos pos' tpos : Pos} {ta tv : TE}
theorem pe_fld (he : PE X e ta) (hb : attributeBase e f X.env (eval e X.env) = eval e X.env) : PE X (.Attribute e f pos) (tFld X.K ta f) := by
  intro pins s σ H Q I h
  refine attr_of hb (thn (he pins s σ H _ I h) fun u s1 ⟨x, H1, I1, rx, a, C, dx, fs, v, ex, ea, c, n, l, q⟩ => ?_)
  subst ex
  obtain rfl : u = Value.ref a := rx
  exact getattr_ok I1 ea c n l fun u' s2 I2 ru => ⟨v, H1, I2, ru, q⟩
theorem ps_fld (ha : PE X o ta) (hv : PE X value tv) (hs : swapsWith value (some (.Attribute o f pos')) pos.line X.env = pure false) : PS X (.Assign [.Attribute o f pos'] value pos) (sFld X.K ta tv f) := by
  intro pins s σ H D I h
  refine plainObj_wpAny_Assign_Attribute (thn (hv pins s σ H _ I h) fun u s1 ⟨y, H1, I1, ry, q⟩ => thn (ha pins s1 σ H1 _ I1 q) fun ov s2 ⟨x, H2, I2, rx, a, C, dx, fs, ex, ea, c, n, l, q2⟩ => ?_) hs
  subst ex
  obtain rfl : ov = Value.ref a := rx
  exact setattr_ok I2 ea c n l ry fun s3 I3 => ⟨σ, _, I3, q2⟩
end

section
variable {X : Cx} {pins : List (Addr × Obj)} {σ : St} {H : Hp} {s : Shared} {A : Around} {E : Value → Shared → Prop} {Q : Value → Shared → Prop} {c : Value} {b : Bool}
/-- the type of a value, as the fragment's deciders take it; for an instance its class -/
inductive TyOf (K : PySem.W.Frag) (H : Hp) : V → Value → Prop where
  | non : TyOf K H .non (.type "NoneType")
  | bl (x : Bool) : TyOf K H (.bl x) (.type "bool")
  | int (i : Int) : TyOf K H (.int i) (.type "int")
  | str (x : Str) : TyOf K H (.str x) (.type "str")
  | flt (x : UInt64) : TyOf K H (.flt x) (.type "float")
  | lst {a : Addr} {xs : List V} (e : H a = some (.lst xs)) : TyOf K H (.ref a) (.type "list")
  | frz {a : Addr} {o : Obj} {xs : List V} (e : H a = some (.frz o (.lst xs))) : TyOf K H (.ref a) (.type "list")
  | tup {a : Addr} {xs : List V} (e : H a = some (.tup xs)) : TyOf K H (.ref a) (.type "tuple")
  | dK {a : Addr} {kvs : List (Key × V)} (e : H a = some (.dK kvs)) : TyOf K H (.ref a) (.type "dict")
  | dT {a : Addr} {kvs : List (List Key × V)} (e : H a = some (.dT kvs)) : TyOf K H (.ref a) (.type "dict")
  | ins {a C dx : Addr} {fs : List (Str × V)} (e : H a = some (.ins C dx fs)) (cl : Cls K C) (ha : PySem.W.findIn K (.ref C) "__class__" = some (some (.builtin "object.__class__")))
      (hn : PySem.W.specialIn K (.builtin "object.__class__") "__get__" = some (some (.builtin "getset_descriptor.__get__"))) (htk : PySem.W.takesIn K (.builtin "object.__class__") = some true)
      (hm : PySem.W.mroIn K C (.type "object") = some true) : TyOf K H (.ref a) (.ref C)
/-- isinstance(x, c) for one class c, a built-in or an own one: kitOne's answer -/
theorem isinst_ok {x : V} {u t : Value} (I : Inv X pins σ H s) (rx : RelV x u) (ty : TyOf X.K H x t) (e : PySem.W.kitOne X.K t c = some b) (h : ∀ tk, Q (.bool b) { s with toks := tk }) :
    wpAny (model X.prog X.w) A (call (.builtin "isinstance") [u, c]) Q E s := by
  cases ty with
  | non => cases (show u = Value.none from rx); exact PySem.W.kia_one PySem.W.kitx_none I.kIn True.intro e (fun z => nomatch z) h
  | bl y => cases (show u = Value.bool y from rx); exact PySem.W.kia_one PySem.W.kitx_bool I.kIn True.intro e (fun z => nomatch z) h
  | int i => obtain ⟨t, q⟩ := (show ∃ t, u = Value.int i t from rx); cases q; exact PySem.W.kia_one PySem.W.kitx_int I.kIn True.intro e (fun z => nomatch z) h
  | str y => obtain ⟨t, q⟩ := (show ∃ t, u = Value.str y t from rx); cases q; exact PySem.W.kia_one PySem.W.kitx_str I.kIn True.intro e (fun z => nomatch z) h
  | flt y => obtain ⟨t, q⟩ := (show ∃ t, u = Value.float y t from rx); cases q; exact PySem.W.kia_one PySem.W.kitx_float I.kIn True.intro e (fun z => nomatch z) h
  | @lst a xs ea =>
    cases (show u = Value.ref a from rx)
    obtain ⟨_, _, n, _, h1⟩ := (show ObjOk X.prog X.w H s.heap a (.lst xs) from I.hok a _ ea)
    exact PySem.W.kia_one PySem.W.kitx_list I.kIn ⟨_, h1, rfl⟩ e (fun z => nomatch z) h
  | @frz a ob xs ea =>
    cases (show u = Value.ref a from rx)
    obtain ⟨_, _, _, n, _, h1⟩ := (show ObjOk X.prog X.w H s.heap a (.frz ob (.lst xs)) from I.hok a _ ea)
    exact PySem.W.kia_one PySem.W.kitx_list I.kIn ⟨_, h1, rfl⟩ e (fun z => nomatch z) h
  | @tup a xs ea =>
    cases (show u = Value.ref a from rx)
    obtain ⟨_, _, _, p⟩ := (show ObjOk X.prog X.w H s.heap a (.tup xs) from I.hok a _ ea)
    obtain ⟨o, h1, h2, _⟩ := p
    exact PySem.W.kia_one PySem.W.kitx_tuple I.kIn ⟨o, h1, h2⟩ e (fun z => nomatch z) h
  | @dK a kvs ea =>
    cases (show u = Value.ref a from rx)
    obtain ⟨_, _, vs, _, p⟩ := (show ObjOk X.prog X.w H s.heap a (.dK kvs) from I.hok a _ ea)
    obtain ⟨o, es, ep, h1, h2, _⟩ := p
    exact PySem.W.kia_one PySem.W.kitx_dict I.kIn ⟨o, h1, h2.1⟩ e (fun z => nomatch z) h
  | @dT a kvs ea =>
    cases (show u = Value.ref a from rx)
    obtain ⟨_, _, xs, _, o, es, ep, h1, h2, _⟩ := (show ObjOk X.prog X.w H s.heap a (.dT kvs) from I.hok a _ ea)
    exact PySem.W.kia_one PySem.W.kitx_dict I.kIn ⟨o, h1, h2.1⟩ e (fun z => nomatch z) h
  | @ins a C dx fs ea cl ha hn htk hm =>
    cases (show u = Value.ref a from rx)
    obtain ⟨mA, O, _⟩ := ins_get I.hok ea
    obtain ⟨od, J, _⟩ := O.look
    exact PySem.W.kia_one (PySem.W.kitx_own (cl.get _) cl.hd ha hn htk hm) I.kIn J e (fun z => nomatch z) h
end
end L2

namespace L2
open PySem PySem.Spec PyProof.Rows

structure Room (k : Nat) (A : Around) : Prop where
  hd : A.handled = none
  dp : A.depth + 3 * k + 5 < recursionLimit
  un : A.units + 16 * k + 200 < cLine
  gd : A.guards = some []
theorem Room.mono {j k : Nat} {A : Around} (r : Room k A) (h : j ≤ k) : Room j A := ⟨r.hd, by have := r.dp; omega, by have := r.un; omega, r.gd⟩
theorem Room.deeper {k : Nat} {A : Around} (r : Room (k + 1) A) (env : Env) : Room k (A.deeper env) :=
  ⟨r.hd, by have := r.dp; show A.depth + 1 + 3 * k + 5 < _; omega, by have := r.un; show A.units + 3 + 16 * k + 200 < _; omega, r.gd⟩
theorem Room.in1 {k : Nat} {A : Around} (r : Room (k + 1) A) : Room k A.in1 :=
  ⟨r.hd, by have := r.dp; show A.depth + 3 * k + 5 < _; omega, by have := r.un; show A.units + 1 + 16 * k + 200 < _; omega, r.gd⟩
theorem make_depth {A : Around} {C : Addr} {us : List Value} {kw : List (Str × Value)} : (A.under (.builtin "type.__call__" ⟨.ref C :: us, kw⟩)).depth = A.depth + 1 := by
  first | rfl | simp [Around.under, Code.weight, Code.isCreation, Code.isGuard, Code.isCaller, Code.frames, Code.isFrame, guardIds]
theorem make_units {A : Around} {C : Addr} {us : List Value} {kw : List (Str × Value)} : (A.under (.builtin "type.__call__" ⟨.ref C :: us, kw⟩)).units = A.units + 1 := by
  first | rfl | simp [Around.under, Code.cUnits, Code.frames, Code.isFrame]
theorem Room.make {k : Nat} {A : Around} (r : Room (k + 1) A) (C : Addr) (us : List Value) (kw : List (Str × Value)) : Room k (A.under (.builtin "type.__call__" ⟨.ref C :: us, kw⟩)) :=
  ⟨r.hd, by have := r.dp; rw [make_depth]; omega, by have := r.un; rw [make_units]; omega, (by first | exact r.gd | simpa [Around.under, Code.isGuard, guardIds] using r.gd)⟩
theorem Room.depth {k : Nat} {A : Around} (r : Room k A) : A.depth < recursionLimit := by have := r.dp; omega
theorem Room.units {k : Nat} {A : Around} (r : Room k A) : A.units + 64 < cLine := by have := r.un; omega
def tNil : TA := fun _ H Q => Q [] H
def tCons (ta : TE) (tr : TA) : TA := fun σ H Q => ta σ H fun x H1 => tr σ H1 fun xs H2 => Q (x :: xs) H2
section
variable {X : Cx} {e : Expr} {es : List Expr} {te : TE} {t : TA} {pos : Pos}
theorem pa_nil : PA X [] tNil := fun _ _ _ _ H Q I h => Calls.spliced_nil ⟨[], H, I, .nil, h⟩
theorem pa_cons (ha : PE X e te) (hr : PA X es t) (hs : starEach (e :: es) X.env = (false, eval e X.env) :: starEach es X.env := by rfl) : PA X (e :: es) (tCons te t) := by
  intro pos pins s σ H Q I h
  rw [hs]
  show wpAny _ _ (spliced ((false, eval e X.env) :: backTo pos (starEach es X.env))) _ _ s
  refine Calls.spliced_cons (thn (ha pins s σ H _ I h) fun u s1 ⟨x, H1, I1, r1, q1⟩ => ?_)
  exact thn (hr pos pins s1 σ H1 _ I1 q1) fun us s2 ⟨xs, H2, I2, r2, q2⟩ => ⟨x :: xs, H2, I2, .cons r1 r2, q2⟩

def tLst (t : TA) : TE := fun σ H Q => t σ H fun xs H1 => xs.length ≤ sizeLine ∧ ∀ p, H1 p = none → Q (.ref p) (upd H1 p (.lst xs))
theorem pe_lst (h : PA X es t) : PE X (.List es pos) (tLst t) := by
  intro pins s σ H Q I hq
  refine wpAny_List_spliced (thn (h pos pins s σ H _ I hq) fun us s1 ⟨xs, H1, I1, r, z, q⟩ => ⟨by rw [← r.length]; exact z, ?_⟩)
  have hf : H1 s1.heap.objs.size = none := I1.hok.fresh (Nat.le_refl _)
  refine ⟨.ref s1.heap.objs.size, upd H1 s1.heap.objs.size (.lst xs), I1.laid (t' := s1.toks) (fun b u e => Heap.get?_push_of_some _ e) (Nat.le_refl _) ?_, rfl, q _ hf⟩
  exact ⟨z, us, 0, r, Heap.get?_push_size _ rfl⟩
end

/-- a def's promise: the bound arguments in the parameters' order, the heap, the wanted end, the wanted exception -/
abbrev Sp := List V → Hp → VK → XK → Prop
/-- how an exception lies behind a call (file 08 gives it): the callers' frames, abstract heap and state ahead of the call, the wish, the exception, the state -/
abbrev CXT := List Env → Hp → Shared → XK → Value → Shared → Prop

/-- the state at a call -/
structure Env0 (P : Program) (w : World) (K : PySem.W.Frag) (mg : Str → Option Value) (base : Heap) (A : Around) (outer : List Env) (s : Shared) (H : Hp) : Prop where
  frames : A.frames = some outer
  mod : Mod K mg base
  bs : ∀ b o, base.get? b = some o → s.heap.get? b = some o ∧ H b = none
  bsz : base.objs.size ≤ s.heap.objs.size
  funs : s.heap.FunFrames base outer
  frf : ∀ b ∈ frs outer, H b = none
  hok : HOk P w H s.heap
  bare : AllBare s.gens
  tb : Tabs P K mg H
/-- a call's end -/
def CE (outer : List Env) (P : Program) (w : World) (H : Hp) (s : Shared) (Q : VK) (u : Value) (s' : Shared) : Prop :=
  ∃ v H', s'.os = s.os ∧ AllBare s'.gens ∧ Un (frs outer) [] H H' s.heap s'.heap ∧ HOk P w H' s'.heap ∧ RelV v u ∧ Q v H'
def CR (CX : CXT) (outer : List Env) (P : Program) (w : World) (H : Hp) (s : Shared) (Q : VK) (E : XK) (r : Result) (s' : Shared) : Prop :=
  match r with
  | .ok (.ret u) => CE outer P w H s Q u s'
  | .ok _ => False
  | .error e => CX outer H s E e s'
structure FnOk (P : Program) (w : World) (K : PySem.W.Frag) (mg : Str → Option Value) (base : Heap) (CX : CXT) (k : Nat) (f : Addr) (fd : FuncData) (ps : List Str) (sp : Sp) : Prop where
  len : ∀ vs H Q E, sp vs H Q E → vs.length = ps.length
  run : ∀ (A : Around) (outer : List Env) (s : Shared) (H : Hp) (args : Args) (us : List Value) (vs : List V) (Q : VK) (E : XK), Room k A → Env0 P w K mg base A outer s H → BindsTo s fd args (ps.zip us) → Vals vs us → sp vs H Q E →
    codeAny (model P w) A (.call (.ref f) args) (CR CX outer P w H s Q E) s
theorem FnOk.mono {P : Program} {w : World} {K : PySem.W.Frag} {mg : Str → Option Value} {base : Heap} {CX : CXT} {j k : Nat} {f : Addr} {fd : FuncData} {ps : List Str} {sp : Sp} (F : FnOk P w K mg base CX j f fd ps sp) (h : j ≤ k) :
    FnOk P w K mg base CX k f fd ps sp := ⟨F.len, fun A outer s H args us vs Q E hr => F.run A outer s H args us vs Q E (hr.mono h)⟩
theorem Env0.make {P : Program} {w : World} {K : PySem.W.Frag} {mg : Str → Option Value} {base : Heap} {A : Around} {outer : List Env} {s : Shared} {H : Hp} (e : Env0 P w K mg base A outer s H) (C : Addr) (us : List Value) (kw : List (Str × Value)) :
    Env0 P w K mg base (A.under (.builtin "type.__call__" ⟨.ref C :: us, kw⟩)) outer s H := ⟨by first | exact e.frames | (simpa [Around.under, Code.envs, Code.isFrame, pushEnvs] using e.frames), e.mod, e.bs, e.bsz, e.funs, e.frf, e.hok, e.bare, e.tb⟩
theorem Env0.in1 {P : Program} {w : World} {K : PySem.W.Frag} {mg : Str → Option Value} {base : Heap} {A : Around} {outer : List Env} {s : Shared} {H : Hp} (e : Env0 P w K mg base A outer s H) :
    Env0 P w K mg base A.in1 outer s H := ⟨e.frames, e.mod, e.bs, e.bsz, e.funs, e.frf, e.hok, e.bare, e.tb⟩

section
variable {X : Cx} {pins : List (Addr × Obj)} {σ : St} {H : Hp} {s s' : Shared}
/-- from a body: what a callee wants -/
theorem Inv.env0 (I : Inv X pins σ H s) : Env0 X.prog X.w X.K X.mg X.base X.A X.stack s H :=
  ⟨I.ok.frames, I.ok.mod, I.bs, Nat.le_trans I.ok.bsz I.sz, I.stack, I.stkFree, I.hok, I.bare, I.ok.tb.un I.base⟩
/-- behind a call -/
theorem Inv.after {Q : VK} {u : Value} (I : Inv X pins σ H s) (h : CE X.stack X.prog X.w H s Q u s') : EP X pins σ Q u s' := by
  obtain ⟨v, H', os, bare, un, hok, r, q⟩ := h
  obtain ⟨hh, g, d, t, os'⟩ := s'
  obtain rfl : os' = s.os := os
  exact ⟨v, H', I.call (h' := hh) (g' := g) (d' := d) (t' := t) (ch := []) un hok bare (fun b z => absurd z (by simp)), r, q⟩
end

/-- f(..): the written arguments, then the defaults dvs; E: what is wanted of an exception -/
def tCall (sp : Sp) (dvs : List V) (E : XK) (t : TA) : TE := fun σ H Q => t σ H fun vs H1 => sp (vs ++ dvs) H1 Q E
/-- o.m(..) of an instance of the class at C -/
def tMeth (C : Addr) (m : Str) (sp : Sp) (dvs : List V) (E : XK) (ta : TE) (t : TA) : TE := fun σ H Q => ta σ H fun x H1 => ∃ a dx fs, x = .ref a ∧ H1 a = some (.ins C dx fs) ∧ fs.lookup m = none ∧
  t σ H1 fun vs H2 => sp (x :: (vs ++ dvs)) H2 Q E
/-- C(..): a new instance and its dict, then __init__ -/
def tMake (C : Addr) (sp : Sp) (dvs : List V) (E : XK) (t : TA) : TE := fun σ H Q => t σ H fun vs H1 => ∀ x dx, H1 x = none → H1 dx = none → dx ≠ x →
  sp (.ref x :: (vs ++ dvs)) (upd (upd H1 dx (.own x)) x (.ins C dx [])) (fun v H2 => v = .non ∧ Q (.ref x) H2) E

/-- how the parameters are bound: us the positional arguments, kw the keywords' values by name, ds the defaults that fill up -/
def Binds (K : PySem.W.Frag) (fd : FuncData) (ps : List Str) (ds : List Value) : Prop :=
  ∀ (s : Shared) (us : List Value), K.In s.heap → (us ++ ds).length = ps.length → BindsTo s fd ⟨us, []⟩ (ps.zip (us ++ ds))
/-- every parameter is given -/
theorem Binds.all {K : PySem.W.Frag} {fd : FuncData} {ps : List Str} (h : ∀ us : List Value, us.length = ps.length → bindArgs fd ⟨us, []⟩ = pure (ps.zip us)) : Binds K fd ps [] := fun s us _ hl => by
  rw [List.append_nil] at hl ⊢
  exact .of_eq (h us hl)

/-- an exception of a callee reaches what this body wants of exceptions -/
def Passes (CX : CXT) (X : Cx) (E : XK) : Prop := ∀ (pins : List (Addr × Obj)) (σ : St) (H : Hp) (s : Shared) (e : Value) (s' : Shared), Inv X pins σ H s → CX X.stack H s E e s' → X.xe e s'

section
variable {X : Cx} {CX : CXT} {k : Nat} {f C : Addr} {fd : FuncData} {ps : List Str} {sp : Sp} {dvs : List V} {ds : List Value} {E : XK} {x m : Str} {p pos apos : Pos} {e o : Expr} {es : List Expr} {ta : TE} {t : TA}

/-- the callee runs -/
theorem run_fn {pins : List (Addr × Obj)} {σ : St} {H : Hp} {s : Shared} {Q : VK} {us : List Value} {vs : List V} (F : FnOk X.prog X.w X.K X.mg X.base CX k f fd ps sp) (hr : Room k X.A) (hb : Binds X.K fd ps ds) (hd : Vals dvs ds) (hx : Passes CX X E)
    (I : Inv X pins σ H s) (r : Vals vs us) (h : sp (vs ++ dvs) H Q E) : wpAny (model X.prog X.w) X.A (call (.ref f) us) (EP X pins σ Q) X.xe s := by
  have r2 : Vals (vs ++ dvs) (us ++ ds) := r.append hd
  have hl : (us ++ ds).length = ps.length := by rw [← r2.length]; exact F.len _ _ _ _ h
  refine wpAny_call (codeAny_mono (F.run X.A X.stack s H ⟨us, []⟩ (us ++ ds) (vs ++ dvs) Q E hr I.env0 (hb s us I.kIn hl) r2 h) fun r s' hq => ?_)
  cases r with
  | error e => exact hx pins σ H s e s' I hq
  | ok fl =>
    cases fl with
    | ret u => exact I.after hq
    | next => exact False.elim hq
    | brk => exact False.elim hq
    | cont => exact False.elim hq

theorem pe_call (F : FnOk X.prog X.w X.K X.mg X.base CX k f fd ps sp) (hr : Room k X.A) (hg : Gl X x) (hm : X.mg x = some (.ref f)) (hk : PySem.W.keepIn X.K (.ref f) = true) (hb : Binds X.K fd ps ds) (hd : Vals dvs ds) (hx : Passes CX X E)
    (ha : PA X (e :: es) t) (hdb : (x == ("__debug__" : Str)) = false := by decide) (he : starEach (e :: es) X.env = (false, eval e X.env) :: starEach es X.env := by rfl) (hpl : (backTo pos (starEach es X.env)).any (·.1) = false := by rfl) :
    PE X (.Call (.Name x p) (e :: es) [] pos) (tCall sp dvs E t) := by
  intro pins s σ H Q I h
  refine wpAny_Call_Name_kw (ld_glob I hg hm ?_ hdb)
  refine PySem.W.callWith_K (h₀ := X.base) I.ok.mod.kin hk (thn (ha pos pins s σ H _ I h) fun us s1 ⟨vs, H1, I1, r, q⟩ => ⟨I1.kIn, ?_⟩) he hpl
  exact run_fn F hr hb hd hx I1 r q
/-- o.m(e, ..) -/
theorem pe_meth {pl : Sem Bool} (he : PE X o ta) (c : Cls X.K C) (hm : Meth X.K C m f) (F : FnOk X.prog X.w X.K X.mg X.base CX k f fd ps sp) (hr : Room k X.A) (hb : Binds X.K fd ps ds) (hd : Vals dvs ds) (hx : Passes CX X E) (ha : PA X (e :: es) t)
    (hst : starEach (e :: es) X.env = (false, eval e X.env) :: starEach es X.env := by rfl) (hpl : (backTo pos (starEach es X.env)).any (·.1) = false := by rfl)
    (ht : eval (.Call (.Attribute o m apos) (e :: es) [] pos) X.env = (do
      let ov ← eval o X.env
      standAt apos.atName
      let (f, first) ← holding [ov] (getMethod ov m pl)
      callWith pos f first (backTo pos (starEach (e :: es) X.env)) (backToKw pos (keywordEach [] X.env))) := by rfl) :
    PE X (.Call (.Attribute o m apos) (e :: es) [] pos) (tMeth C m sp dvs E ta t) := by
  intro pins s σ H Q I h
  refine PySem.W.methodCall_KW (pl := pl) (thn (he pins s σ H _ I h) fun u s1 ⟨x, H1, I1, rx, a, dx, fs, ex, ea, l, q⟩ => ?_) ht
  subst ex
  obtain rfl : u = Value.ref a := rx
  refine getmeth_ok I1 ea c hm l ?_
  refine PySem.W.callWith_K (first := [.ref a]) (h₀ := X.base) I.ok.mod.kin hm.kp (thn (ha pos pins s1 σ H1 _ I1 q) fun us s2 ⟨vs, H2, I2, r, q2⟩ => ⟨I2.kIn, ?_⟩) hst hpl
  exact run_fn (us := .ref a :: us) (vs := .ref a :: vs) F hr hb hd hx I2 (.cons rfl r) q2
/-- o.m() -/
theorem pe_meth0 {pl : Sem Bool} (he : PE X o ta) (c : Cls X.K C) (hm : Meth X.K C m f) (F : FnOk X.prog X.w X.K X.mg X.base CX k f fd ps sp) (hr : Room k X.A) (hb : Binds X.K fd ps ds) (hd : Vals dvs ds) (hx : Passes CX X E)
    (ht : eval (.Call (.Attribute o m apos) [] [] pos) X.env = (do
      let ov ← eval o X.env
      standAt apos.atName
      let (f, first) ← holding [ov] (getMethod ov m pl)
      callWith pos f first (backTo pos (starEach [] X.env)) (backToKw pos (keywordEach [] X.env))) := by rfl) :
    PE X (.Call (.Attribute o m apos) [] [] pos) (tMeth C m sp dvs E ta tNil) := by
  intro pins s σ H Q I h
  refine PySem.W.methodCall_KW (pl := pl) (thn (he pins s σ H _ I h) fun u s1 ⟨x, H1, I1, rx, a, dx, fs, ex, ea, l, q⟩ => ?_) ht
  subst ex
  obtain rfl : u = Value.ref a := rx
  refine getmeth_ok I1 ea c hm l ?_
  exact PySem.W.callWith_K0 (first := [.ref a]) I1.kIn hm.kp (run_fn (us := [.ref a]) (vs := [.ref a]) F hr hb hd hx I1 (.cons rfl .nil) q)

/-- what a class must have to be made -/
structure Mk (K : PySem.W.Frag) (C f : Addr) : Prop where
  makes : PySem.W.makesIn K C = true
  init : PySem.W.findIn K (.ref C) "__init__" = some (some (.ref f))
  fn : PySem.W.isFn K (.ref f) = true
  kp : PySem.W.keepIn K (.ref C) = true

theorem run_make {pins : List (Addr × Obj)} {σ : St} {H : Hp} {s : Shared} {Q : VK} {us : List Value} {vs : List V} (M : Mk X.K C f) (F : FnOk X.prog X.w X.K X.mg X.base CX k f fd ps sp) (hr : Room (k + 1) X.A) (hb : Binds X.K fd ps ds) (hd : Vals dvs ds)
    (hx : Passes CX X E) (I : Inv X pins σ H s) (r : Vals vs us)
    (h : ∀ x dx, H x = none → H dx = none → dx ≠ x → sp (.ref x :: (vs ++ dvs)) (upd (upd H dx (.own x)) x (.ins C dx [])) (fun v H2 => v = .non ∧ Q (.ref x) H2) E) :
    wpAny (model X.prog X.w) X.A (call (.ref C) us) (EP X pins σ Q) X.xe s := by
  have hq := h (s.heap.objs.size + 1) s.heap.objs.size (I.hok.fresh (Nat.le_succ _)) (I.hok.fresh (Nat.le_refl _)) (Nat.ne_of_lt (Nat.lt_succ_self _))
  have I2 := Inv.made (C := C) I
  have r2 : Vals (V.ref (s.heap.objs.size + 1) :: (vs ++ dvs)) (Value.ref (s.heap.objs.size + 1) :: (us ++ ds)) := .cons rfl (r.append hd)
  have hl : (Value.ref (s.heap.objs.size + 1) :: us ++ ds).length = ps.length := by
    have e := r2.length
    rw [F.len _ _ _ _ hq] at e
    exact e.symm
  refine wpAny_call (make_map (f := f) I.kIn M.makes M.init (beq_iff_eq.mp M.fn) (codeAny_mono (F.run _ X.stack _ _ ⟨Value.ref (s.heap.objs.size + 1) :: us, []⟩ (Value.ref (s.heap.objs.size + 1) :: (us ++ ds)) _ _ E (hr.make C us [])
    (I2.env0.make C us []) (hb _ (Value.ref (s.heap.objs.size + 1) :: us) I2.kIn hl) r2 hq) fun r s' hq' => ?_))
  cases r with
  | error e => exact hx pins σ _ _ e s' I2 hq'
  | ok fl =>
    cases fl with
    | ret u =>
      obtain ⟨v, H', I3, rv, ev, q3⟩ := I2.after hq'
      subst ev
      exact ⟨rv, ⟨V.ref (s.heap.objs.size + 1), H', I3, rfl, q3⟩⟩
    | next => exact False.elim hq'
    | brk => exact False.elim hq'
    | cont => exact False.elim hq'
theorem pe_make0 (M : Mk X.K C f) (F : FnOk X.prog X.w X.K X.mg X.base CX k f fd ps sp) (hr : Room (k + 1) X.A) (hg : Gl X x) (hm : X.mg x = some (.ref C)) (hb : Binds X.K fd ps ds) (hd : Vals dvs ds) (hx : Passes CX X E)
    (hdb : (x == ("__debug__" : Str)) = false := by decide) : PE X (.Call (.Name x p) [] [] pos) (tMake C sp dvs E tNil) := by
  intro pins s σ H Q I h
  refine wpAny_Call_Name_kw (ld_glob I hg hm ?_ hdb)
  exact PySem.W.callWith_K0 I.kIn M.kp (run_make (us := []) M F hr hb hd hx I .nil h)
end

section
variable {X : Cx} {CX : CXT} {k : Nat} {f C : Addr} {fd : FuncData} {ps ks : List Str} {sp : Sp} {E : XK} {x m : Str} {p pos apos kpos : Pos} {e o : Expr} {es : List Expr} {kws : List Keyword} {te ta : TE} {t tk : TA} {nm : Option Str}
/-- how a call with keywords binds: g puts the positional values us and the keywords' values ws (names ks) in the parameters' order, defaults among them -/
structure KBinds (K : PySem.W.Frag) (fd : FuncData) (ps ks : List Str) (g : List Value → List Value → List Value) (gV : List V → List V → List V) : Prop where
  to : ∀ (s : Shared) (us ws : List Value), K.In s.heap → (g us ws).length = ps.length → BindsTo s fd ⟨us, ks.zip ws⟩ (ps.zip (g us ws))
  rel : ∀ {vs : List V} {us : List Value} {zs : List V} {ws : List Value}, Vals vs us → Vals zs ws → Vals (gV vs zs) (g us ws)
variable {g : List Value → List Value → List Value} {gV : List V → List V → List V}
end

/-- names: the parameters first -/
structure FnScope (N P : List Str) (sc : Scope) : Prop where
  kind : sc.kind = .function
  co : sc.isCoroutine = false
  gen : sc.isGenerator = false
  nd : N.Nodup
  pre : N.take P.length = P
  par : ∀ x ∈ P, sc.names.lookup x = some .local ∨ sc.names.lookup x = some .cell
  nofree : ∀ y ∈ sc.names, y.2 ≠ .free

theorem bindL_out {kindOf : Str → Option NameKind} {x : Str} : ∀ {binds : List (Str × Value)} {m : Str → Option Value}, (∀ v, (x, v) ∉ binds) → bindL kindOf binds m x = m x
  | [], _, _ => rfl
  | (n, v) :: r, m, h => by
    unfold bindL
    rw [bindL_out fun w hw => h w (List.mem_cons_of_mem _ hw)]
    split
    · have : x ≠ n := by rintro rfl; exact h v List.mem_cons_self
      simp [this]
    · rfl
theorem bindC_out {kindOf : Str → Option NameKind} {x : Str} : ∀ {binds : List (Str × Value)} {m : Str → Option Value}, (∀ v, (x, v) ∉ binds) → bindC kindOf binds m x = m x
  | [], _, _ => rfl
  | (n, v) :: r, m, h => by
    unfold bindC
    rw [bindC_out fun w hw => h w (List.mem_cons_of_mem _ hw)]
    split
    · rfl
    · have : x ≠ n := by rintro rfl; exact h v List.mem_cons_self
      simp [this]
theorem bindL_get {kindOf : Str → Option NameKind} {x : Str} {v : Value} : ∀ {P : List Str} {vs : List Value} {i : Nat} {m : Str → Option Value}, P.Nodup → P[i]? = some x → vs[i]? = some v → kindOf x = some .local →
    bindL kindOf (P.zip vs) m x = some v
  | [], _, _, _, _, h, _, _ => by simp at h
  | _ :: _, [], _, _, _, _, h, _ => by simp at h
  | p :: P, w :: vs, 0, m, nd, h1, h2, hk => by
    simp at h1 h2; subst h1; subst h2
    show bindL kindOf ((p, w) :: P.zip vs) m p = _
    unfold bindL
    rw [bindL_out fun v hv => (List.nodup_cons.mp nd).1 (List.of_mem_zip hv).1, if_pos hk]
    simp
  | p :: P, w :: vs, i + 1, m, nd, h1, h2, hk => by
    show bindL kindOf ((p, w) :: P.zip vs) m x = _
    unfold bindL
    exact bindL_get (i := i) (List.nodup_cons.mp nd).2 (by simpa using h1) (by simpa using h2) hk
theorem bindC_get {kindOf : Str → Option NameKind} {x : Str} {v : Value} : ∀ {P : List Str} {vs : List Value} {i : Nat} {m : Str → Option Value}, P.Nodup → P[i]? = some x → vs[i]? = some v → kindOf x ≠ some .local →
    bindC kindOf (P.zip vs) m x = some v
  | [], _, _, _, _, h, _, _ => by simp at h
  | _ :: _, [], _, _, _, _, h, _ => by simp at h
  | p :: P, w :: vs, 0, m, nd, h1, h2, hk => by
    simp at h1 h2; subst h1; subst h2
    show bindC kindOf ((p, w) :: P.zip vs) m p = _
    unfold bindC
    rw [bindC_out fun v hv => (List.nodup_cons.mp nd).1 (List.of_mem_zip hv).1, if_neg hk]
    simp
  | p :: P, w :: vs, i + 1, m, nd, h1, h2, hk => by
    show bindC kindOf ((p, w) :: P.zip vs) m x = _
    unfold bindC
    exact bindC_get (i := i) (List.nodup_cons.mp nd).2 (by simpa using h1) (by simpa using h2) hk

/-- the names' values at the entry -/
def start (N : List Str) (vs : List V) : St := vs.map some ++ List.replicate (N.length - vs.length) none

/-- the context of a def's body, at its entry; an exception leaves the frame, then lies as CX says -/
def cxOf (CX : CXT) (P : Program) (w : World) (K : PySem.W.Frag) (mg : Str → Option Value) (base : Heap) (N : List Str) (qual : Str) (scope : Scope) (f : Addr) (cd : Value) (A : Around) (outer : List Env) (s : Shared) (H : Hp) (E : XK) : Cx where
  prog := P
  w := w
  K := K
  mg := mg
  base := base
  A := A.deeper (envOfC qual scope s.heap.objs.size f cd)
  N := N
  s_0 := s
  H_0 := H
  env := envOfC qual scope s.heap.objs.size f cd
  outer := outer
  stack := envOfC qual scope s.heap.objs.size f cd :: outer
  ex := []
  calm := true
  fn := fun _ => true
  pn := []
  xe := fun e s' => wpAny (model P w) (A.deeper (envOfC qual scope s.heap.objs.size f cd)) (leaving (envOfC qual scope s.heap.objs.size f cd) e) (fun _ s'' => CX outer H s E e s'') (fun e' s'' => CX outer H s E e' s'') s'

theorem cell_has {sc : Scope} {n : Nat} {x : Str} (h : sc.names.lookup x = some .cell) : ∃ c, (cellsFrom n sc.names []).lookup x = some c := by
  have q := PySem.W.cellsFrom_some sc.names n [] (.inl h)
  exact Option.isSome_iff_exists.mp q

theorem inv_start {CX : CXT} {P : Program} {w : World} {K : PySem.W.Frag} {mg : Str → Option Value} {base : Heap} {N ps : List Str} {qual : Str} {scope : Scope} {f : Addr} {cd : Value} {A : Around} {outer : List Env} {s s1 : Shared} {H : Hp} {E : XK} {us : List Value} {vs : List V}
    (S : FnScope N ps scope) (hd : A.handled = none) (e0 : Env0 P w K mg base A outer s H) (hl : vs.length = ps.length) (r : Vals vs us)
    (x : InCallC s s.heap.objs.size (bindL (envOfC qual scope s.heap.objs.size f cd).kindOf (ps.zip us) fun _ => none) (cellsFrom (s.heap.objs.size + 1) scope.names []) (bindC (envOfC qual scope s.heap.objs.size f cd).kindOf (ps.zip us) fun _ => none) s1) :
    Inv (cxOf CX P w K mg base N qual scope f cd A outer s H E) [] (start N vs) H s1 := by
  have hpl : ps.length ≤ N.length := by have := congrArg List.length S.pre; rw [List.length_take] at this; omega
  obtain ⟨h1, tk, rfl, hk⟩ := x.done
  have noA : ∀ b : Addr, b ∉ (cxOf CX P w K mg base N qual scope f cd A outer s H E).ex := fun b z => absurd (show b ∈ ([] : List Addr) from z) (by simp)
  refine ⟨⟨e0.mod, S.kind, rfl, rfl, Nat.le_refl _, fun y z c h1 h2 => ?_, fun y hy => ?_, fun y c _ h => ?_, fun _ => hd, Around.frames_deeper e0.frames, .inr ⟨rfl, rfl⟩, fun b z => absurd z (noA b), e0.bs, e0.bsz, fun b _ _ => noA b, fun b z => absurd z (noA b), e0.funs, e0.frf, e0.tb⟩,
    rfl, e0.bare, Un.kept hk, ⟨_, x.toInCall.ns, fun i y v h1 h2 h3 => ?_⟩, fun y c h => ⟨_, x.cell y c h⟩, e0.hok.fresh (Nat.le_refl _), fun y c h => ?_, fun p hp => absurd (show p ∈ ([] : List (Addr × Obj)) from hp) (by simp), e0.hok.kept hk, ?_⟩
  · exact name_of_addr x.apart (PySem.mem_of_lookup h1) (PySem.mem_of_lookup h2)
  · have hy : scope.names.lookup y = some .cell ∨ scope.names.lookup y = some .free := hy
    rcases hy with hy | hy
    · exact cell_has hy
    · exact absurd rfl (S.nofree _ (PySem.mem_of_lookup hy))
  · exact Nat.le_of_lt (x.above y c (PySem.mem_of_lookup h))
  · have hi : i < vs.length := by
      unfold start at h2
      by_cases hi : i < vs.length
      · exact hi
      · rw [List.getElem?_append_right (by simpa using hi)] at h2
        rw [List.getElem?_replicate] at h2
        split at h2 <;> cases h2
    have ha : vs[i]? = some v := by
      unfold start at h2
      rw [List.getElem?_append_left (by simpa using hi), List.getElem?_map] at h2
      cases e : vs[i]? with
      | none => rw [e] at h2; cases h2
      | some a => rw [e] at h2; cases h2; rfl
    obtain ⟨u, hu, rv⟩ := r.get ha
    have hp : ps[i]? = some y := by
      rw [← S.pre, List.getElem?_take_of_lt (by omega)]; exact h1
    have ndP : ps.Nodup := by rw [← S.pre]; exact S.nd.sublist (List.take_sublist _ _)
    refine ⟨u, rv, ?_⟩
    rcases S.par y (List.mem_of_getElem? hp) with k | k
    · exact .inl ⟨k, bindL_get ndP hp hu k⟩
    · obtain ⟨c, e⟩ := cell_has (n := s.heap.objs.size + 1) k
      refine .inr ⟨.inl k, c, e, ?_⟩
      have q := x.cell y c e
      rw [bindC_get ndP hp hu (by show scope.names.lookup y ≠ _; rw [k]; decide)] at q
      exact q
  · exact e0.hok.fresh (Nat.le_of_lt (x.above y c (PySem.mem_of_lookup h)))
  · unfold start
    show _ = N.length
    rw [List.length_append, List.length_map, List.length_replicate]
    omega

/-- THE RULE: a def (or a method) of the text, by its body. The body's reading t is chosen for each entry; it is run at the parameters' values -/
theorem fn_of {CX : CXT} {P : Program} {w : World} {K : PySem.W.Frag} {mg : Str → Option Value} {base : Heap} {k : Nat} {f : Addr} {name qual : Str} {params : Arguments} {body : List Stmt} {scope : Scope} {dV kV doc pm cdv ct oc : Value} {an od : Option Addr}
    {osl : Array (Option Value)} {N ps : List Str} {sp : Sp} (lk : K.lookup f = some ⟨oc, od, .func (PySem.W.fnOf name qual params body scope dV kV doc pm an cdv ct), osl⟩) (hcd : PySem.W.codeIn K cdv qual = true) (S : FnScope N ps scope)
    (len : ∀ vs H Q E, sp vs H Q E → vs.length = ps.length)
    (hbody : ∀ (A : Around) (outer : List Env) (s : Shared) (H : Hp) (vs : List V) (Q : VK) (E : XK), Room k (A.deeper (envOfC qual scope s.heap.objs.size f cdv)) → sp vs H Q E →
      ∃ t, PSs (cxOf CX P w K mg base N qual scope f cdv A outer s H E) body t ∧ t { nx := fun _ H' => Q .non H', rt := Q } (start N vs) H) :
    FnOk P w K mg base CX (k + 1) f (PySem.W.fnOf name qual params body scope dV kV doc pm an cdv ct) ps sp := by
  refine ⟨len, fun A outer s H args us vs Q E hr e0 hb r hsp => ?_⟩
  have hl := len _ _ _ _ hsp
  have KX : K.In s.heap := e0.mod.kin.keeps fun b o e => (e0.bs b o e).1
  have lim : s.heap.NoLimit := e0.mod.nolimit.keeps fun b o e => (e0.bs b o e).1
  have hkind : ∀ y ∈ ps.zip us, scope.names.lookup y.1 = some .local ∨ (scope.names.lookup y.1 = some .cell ∧ ((cellsFrom (s.heap.objs.size + 1) scope.names []).lookup y.1).isSome = true) := fun ⟨n, v⟩ hy => by
    rcases S.par n (List.of_mem_zip hy).1 with q | q
    · exact .inl q
    · exact .inr ⟨q, PySem.W.cellsFrom_some _ _ _ (.inl q)⟩
  refine codeAny_call_function hr.depth (KX _ _ lk) rfl S.co S.gen rfl (PySem.W.codeRec_of KX hcd) (hb _ _ _ _ ?_)
  refine wpAny_newFunctionEnv_cells S.kind hkind fun env he s1 x => ?_
  subst he
  refine ⟨lim.keeps x.toInCall.keep, codeAny_func ?_⟩
  obtain ⟨t, ht, hq⟩ := hbody A outer s H vs Q E (hr.deeper _) hsp
  have I : Inv (cxOf CX P w K mg base N qual scope f cdv A outer s H E) [] (start N vs) H s1 := inv_start S hr.hd e0 hl r x
  refine wpAny_mono (ht [] s1 (start N vs) H _ I hq) (fun fl s' hs => ?_) fun e s' hs => hs
  have fin : ∀ {σ' : St} {H' : Hp} {v : V} {u : Value}, Inv (cxOf CX P w K mg base N qual scope f cdv A outer s H E) [] σ' H' s' → RelV v u → Q v H' → CE outer P w H s Q u s' :=
    fun {σ' H' v u} J rv q => ⟨v, H', J.os, J.bare, J.base, J.hok, rv, q⟩
  cases fl with
  | ret u =>
    obtain ⟨v, σ', H', J, rv, q⟩ := hs
    exact fin J rv q
  | next =>
    obtain ⟨σ', H', J, q⟩ := hs
    exact fin (v := V.non) (u := Value.none) J rfl q
  | brk =>
    obtain ⟨_, _, _, q⟩ := hs
    exact False.elim q
  | cont =>
    obtain ⟨_, _, _, q⟩ := hs
    exact False.elim q
end L2

namespace L2
open PySem PySem.Spec PyProof.Rows
section
variable {X : Cx} {x : Str} {p pos : Pos} {e : Expr} {es : List Expr} {t : TA} {id T : String} {r : List V → Hp → VK → Prop}

def tCB (r : List V → Hp → VK → Prop) (t : TA) : TE := fun σ H Q => t σ H fun vs H1 => r vs H1 Q
/-- f(e, ..), f a built-in function -/
theorem pe_callB (hc : CallR X (.builtin id) r) (hg : Gl X x) (hm : X.mg x = none) (hv : bootBuiltins x = some (.builtin id)) (ha : PA X (e :: es) t) (hn : x ≠ "__name__" := by decide) (hdb : (x == ("__debug__" : Str)) = false := by decide)
    (he : starEach (e :: es) X.env = (false, eval e X.env) :: starEach es X.env := by rfl) (hpl : (backTo pos (starEach es X.env)).any (·.1) = false := by rfl) : PE X (.Call (.Name x p) (e :: es) [] pos) (tCB r t) := by
  intro pins s σ H Q I h
  refine wpAny_Call_Name_kw (ld_blt I hg hm hv ?_ hn hdb)
  exact PyProof.Rows.callWith_builtin1 (thn (ha pos pins s σ H _ I h) fun us s1 ⟨vs, H1, I1, r1, q1⟩ => hc pins s1 σ H1 vs us Q I1 r1 q1) he hpl
/-- T(e, ..), T a built-in type -/
theorem pe_callTy (hc : CallR X (.type T) r) (hg : Gl X x) (hm : X.mg x = none) (hv : bootBuiltins x = some (.type T)) (ha : PA X (e :: es) t) (hn : x ≠ "__name__" := by decide) (hdb : (x == ("__debug__" : Str)) = false := by decide)
    (he : starEach (e :: es) X.env = (false, eval e X.env) :: starEach es X.env := by rfl) (hpl : (backTo pos (starEach es X.env)).any (·.1) = false := by rfl) : PE X (.Call (.Name x p) (e :: es) [] pos) (tCB r t) := by
  intro pins s σ H Q I h
  refine wpAny_Call_Name_kw (ld_blt I hg hm hv ?_ hn hdb)
  exact PyProof.Rows.callWith_type1 (thn (ha pos pins s σ H _ I h) fun us s1 ⟨vs, H1, I1, r1, q1⟩ => hc pins s1 σ H1 vs us Q I1 r1 q1) he hpl
end
end L2

namespace HT
open PySem PyProof.Rows

section
open PySem.SeqAt
open PySem.AutoSeq1 (wpAny_loadPart')
open PySem.MeetsSeq PySem.MeetsSeq2 PySem.MeetsSeq3

end

section
variable {prog : Program} {w : World} {A : Around} {E : Value → Shared → Prop} {s : Shared}

/-- a slice's bound as a place among n (d where it is left out) -/
def sIx (n d : Nat) : Option Int → Nat
  | none => d
  | some v => if v < 0 then (v + (n : Int)).toNat else min v.toNat n
theorem sIx_nat (n d k : Nat) : sIx n d (some (k : Int)) = min k n := by
  show (if (k : Int) < 0 then ((k : Int) + (n : Int)).toNat else min (k : Int).toNat n) = min k n
  rw [if_neg (by omega), Int.toNat_natCast]
end
end HT

namespace L2
open PySem PySem.Spec PyProof.Rows

abbrev TO := St → Hp → (Option Int → Hp → Prop) → Prop
/-- a slice's part (left out, or an int) -/
def PO (X : Cx) (e : Option Expr) (t : TO) : Prop :=
  ∀ (pins : List (Addr × Obj)) (s : Shared) (σ : St) (H : Hp) (Q : Option Int → Hp → Prop), Inv X pins σ H s → t σ H Q →
    wpAny (model X.prog X.w) X.A (evalPart e X.env) (fun u s' => ∃ o H', Inv X pins σ H' s' ∧ IsPart u o ∧ Q o H') X.xe s
def tNoPart : TO := fun _ H Q => Q none H
def tPart (t : TE) : TO := fun σ H Q => t σ H fun x H1 => ∃ i, x = .int i ∧ Q (some i) H1

theorem intsAre_of {ns : List Int} : ∀ {us : List Value}, Vals (ns.map V.int) us → IntsAre us ns := by
  induction ns with
  | nil => intro us r; rw [List.map_nil] at r; cases r; exact .nil
  | cons n ns ih =>
    intro us r
    rw [List.map_cons] at r
    cases r with
    | cons r1 r2 =>
      obtain ⟨t, e⟩ := r1
      subst e
      exact .cons n t (ih r2)

section
variable {X : Cx} {e : Expr} {te : TE} {lo hi : Option Expr} {tl th : TO} {pos p2 : Pos}

theorem po_none : PO X none tNoPart := by
  intro pins s σ H Q I h
  rw [evalPart_none]
  exact wpAny_pure ⟨none, H, I, .none, h⟩
theorem po_some (h : PE X e te) : PO X (some e) (tPart te) := by
  intro pins s σ H Q I hw
  rw [evalPart_some]
  refine thn (h pins s σ H _ I hw) fun u s1 ⟨x, H1, I1, r1, q1⟩ => ?_
  obtain ⟨i, rfl, q⟩ := q1
  obtain ⟨t, rfl⟩ := r1
  exact ⟨some i, H1, I1, .int i t, q⟩

/-- what a slice of a value is, by values: the slice object stands at sl -/
def SlR (X : Cx) (r : V → Option Int → Option Int → Hp → VK → Prop) : Prop :=
  ∀ (pins : List (Addr × Obj)) (s : Shared) (σ : St) (H : Hp) (x : V) (v vl vu : Value) (lo hi : Option Int) (sl : Addr) (Q : VK), Inv X pins σ H s → RelV x v → s.heap.IsSliceOf sl vl vu .none → IsPart vl lo → IsPart vu hi → r x lo hi H Q →
    ∃ T id, typeLookup (.type T) "__getitem__" = pure (some (.builtin id)) ∧ s.TypeIs v T ∧ wpAny (model X.prog X.w) X.A (getItem v (.ref sl)) (EP X pins σ Q) X.xe s
theorem SlR.or {r r' : V → Option Int → Option Int → Hp → VK → Prop} (h : SlR X r) (h' : SlR X r') : SlR X (fun x lo hi H Q => r x lo hi H Q ∨ r' x lo hi H Q) := by
  intro pins s σ H x v vl vu lo hi sl Q I rx hs pl pu q
  rcases q with q | q
  · exact h pins s σ H x v vl vu lo hi sl Q I rx hs pl pu q
  · exact h' pins s σ H x v vl vu lo hi sl Q I rx hs pl pu q
def tSl (r : V → Option Int → Option Int → Hp → VK → Prop) (te : TE) (tl th : TO) : TE := fun σ H Q => te σ H fun x H1 => tl σ H1 fun l H2 => th σ H2 fun u H3 => r x l u H3 Q
/-- a[lo:hi], any a -/
theorem pe_slice {r : V → Option Int → Option Int → Hp → VK → Prop} (hr : SlR X r) (he : PE X e te) (hl : PO X lo tl) (hu : PO X hi th) : PE X (.Subscript e (.Slice lo hi none p2) pos) (tSl r te tl th) := by
  intro pins s σ H Q I h
  refine Subscript_ (thn (he pins s σ H _ I h) fun v s1 ⟨x, H1, I1, r1, q1⟩ => ?_)
  refine wpAny_Slice (thn (hl pins s1 σ H1 _ I1 q1) fun vl s2 ⟨l, H2, I2, pl, q2⟩ => thn (hu pins s2 σ H2 _ I2 q2) fun vu s3 ⟨u, H3, I3, pu, q3⟩ => ?_)
  rw [evalPart_none]
  refine wpAny_pure ?_
  have I4 : Inv X pins σ H3 { s3 with heap := s3.heap.push { cls := .type "slice", data := .fields #[vl, vu, .none] } } := I3.kept (t' := s3.toks) fun b ob q => Heap.get?_push_of_some _ q
  obtain ⟨T, id, hT, ht, hg⟩ := hr pins { s3 with heap := s3.heap.push { cls := .type "slice", data := .fields #[vl, vu, .none] } } σ H3 x v vl vu l u s3.heap.objs.size Q I4 r1 (Heap.IsSliceOf.new ..) pl pu q3
  show wpAny (model X.prog X.w) X.A (subscriptTail e (.Slice lo hi none p2) v (.ref s3.heap.objs.size)) (EP X pins σ Q) X.xe { s3 with heap := s3.heap.push { cls := .type "slice", data := .fields #[vl, vu, .none] } }
  exact tail_any (ops := [.ref s3.heap.objs.size, v]) ht hT hg (by with_unfolding_all rfl)

/-- the items of xs[lo:hi] -/
def cutV (xs : List V) (lo hi : Option Int) : List V := (xs.drop (HT.sIx xs.length 0 lo)).take (HT.sIx xs.length xs.length hi - HT.sIx xs.length 0 lo)
theorem cutV_length (xs : List V) (lo hi : Option Int) : (cutV xs lo hi).length ≤ xs.length := by
  unfold cutV
  rw [List.length_take, List.length_drop]
  omega
end
end L2

namespace L2
open PySem PySem.Spec PyProof.Rows

/-- the place that an index of any sign means -/
def ixN (n : Nat) (i : Int) : Option Nat := if 0 ≤ i then (if i < n then some i.toNat else none) else if -(n : Int) ≤ i then some (i + n).toNat else none
def atI {α : Type} (xs : List α) (i : Int) : Option α := (ixN xs.length i).bind fun j => xs[j]?
theorem ixN_seq {n : Nat} {i : Int} {j : Nat} (h : ixN n i = some j) : seqIndex? i n = some j ∧ j < n ∧ -(n : Int) ≤ i ∧ i < n := by
  unfold ixN at h
  by_cases h0 : 0 ≤ i
  · rw [if_pos h0] at h
    by_cases h1 : i < n
    · rw [if_pos h1] at h
      have e : i.toNat = j := Option.some.inj h
      exact ⟨by rw [seqIndex_of h0 h1, e], by omega, by omega, h1⟩
    · rw [if_neg h1] at h; cases h
  · rw [if_neg h0] at h
    by_cases h1 : -(n : Int) ≤ i
    · rw [if_pos h1] at h
      have e : (i + n).toNat = j := Option.some.inj h
      exact ⟨by rw [seqIndex_neg (by omega) h1, e], by omega, h1, by omega⟩
    · rw [if_neg h1] at h; cases h
theorem atI_get {α : Type} {xs : List α} {i : Int} {v : α} (h : atI xs i = some v) : ∃ j, seqIndex? i xs.length = some j ∧ xs[j]? = some v ∧ j < xs.length ∧ -(xs.length : Int) ≤ i ∧ i < xs.length := by
  unfold atI at h
  cases e : ixN xs.length i with
  | none => rw [e] at h; cases h
  | some j =>
    rw [e] at h
    obtain ⟨h1, h2, h3, h4⟩ := ixN_seq e
    exact ⟨j, h1, h, h2, h3, h4⟩
theorem atI_nat {α : Type} {xs : List α} {j : Nat} {v : α} (h : xs[j]? = some v) : atI xs (j : Int) = some v := by
  have hj : j < xs.length := (List.getElem?_eq_some_iff.mp h).1
  have e : ixN xs.length (j : Int) = some j := by
    unfold ixN
    rw [if_pos (by omega), if_pos (by omega)]; simp
  unfold atI; rw [e]; exact h
theorem atI_last {α : Type} (xs : List α) (v : α) : atI (xs ++ [v]) (-1) = some v := by
  have hl : (xs ++ [v]).length = xs.length + 1 := by simp
  have e : ixN (xs ++ [v]).length (-1) = some xs.length := by
    unfold ixN
    rw [hl, if_neg (by decide), if_pos (by omega)]
    congr 1
    omega
  unfold atI
  rw [e]
  show (xs ++ [v])[xs.length]? = some v
  simp

/-- what stands as an index of a plain subscript -/
def PlainIx (b : Expr) : Prop := ∀ o i, subscripted b false o i = operate [o, i] (getItem o i)
/-- a subscript by values -/
def IxR (X : Cx) (r : R2) : Prop :=
  ∀ (value slice : Expr) (pins : List (Addr × Obj)) (s : Shared) (σ : St) (H : Hp) (x y : V) (v u : Value) (Q : VK), Inv X pins σ H s → RelV x v → RelV y u → r x y H Q →
    subscripted slice false v u = operate [v, u] (getItem v u) → wpAny (model X.prog X.w) X.A (subscriptTail value slice v u) (EP X pins σ Q) X.xe s
/-- a call of a builtin's method by values: the receiver, the arguments -/
def MtR (X : Cx) (id : String) (r : V → List V → Hp → VK → Prop) : Prop :=
  ∀ (pins : List (Addr × Obj)) (s : Shared) (σ : St) (H : Hp) (x : V) (xs : List V) (v : Value) (us : List Value) (Q : VK), Inv X pins σ H s → RelV x v → Vals xs us → r x xs H Q →
    wpAny (model X.prog X.w) X.A (call (.builtin id) (v :: us)) (EP X pins σ Q) X.xe s
section
variable {X : Cx} {a b : Expr} {ta tb : TE} {pos : Pos}
theorem IxR.or {r r' : R2} (h : IxR X r) (h' : IxR X r') : IxR X (fun x y H Q => r x y H Q ∨ r' x y H Q) := by
  intro value slice pins s σ H x y v u Q I rx ry q hs
  rcases q with q | q
  · exact h value slice pins s σ H x y v u Q I rx ry q hs
  · exact h' value slice pins s σ H x y v u Q I rx ry q hs
theorem MtR.or {id : String} {r r' : V → List V → Hp → VK → Prop} (h : MtR X id r) (h' : MtR X id r') : MtR X id (fun x xs H Q => r x xs H Q ∨ r' x xs H Q) := by
  intro pins s σ H x xs v us Q I rx rs q
  rcases q with q | q
  · exact h pins s σ H x xs v us Q I rx rs q
  · exact h' pins s σ H x xs v us Q I rx rs q
/-- a[b] -/
theorem pe_ix {r : R2} (hr : IxR X r) (ha : PE X a ta) (hb : PE X b tb) (hs : PlainIx b) : PE X (.Subscript a b pos) (tOp r ta tb) := by
  intro pins s σ H Q I h
  exact Subscript_ (binT ha hb I h fun v u s2 x y H2 I2 rx ry q => hr a b pins s2 σ H2 x y v u Q I2 rx ry q (hs _ _))

def rIxL (K : PySem.W.Frag) : R2 := fun x y H Q => ∃ p xs i v, x = .ref p ∧ y = .int i ∧ SqL K H p xs ∧ atI xs i = some v ∧ Q v H
theorem ix_list : IxR X (rIxL X.K) := by
  intro value slice pins s σ H x y v u Q I rx ry h hs
  obtain ⟨p, xs, i, z, rfl, rfl, hq, he, q⟩ := h
  cases rx
  obtain ⟨t, rfl⟩ := ry
  obtain ⟨its, r, pl, hz⟩ := I.list hq
  obtain ⟨j, h1, h2, h3, h4, h5⟩ := atI_get he
  obtain ⟨w, ew, rw'⟩ := r.get h2
  have hl := r.length
  have hn := line63
  have fin : EP X pins σ Q w s := ⟨z, H, I, rw', q⟩
  by_cases h0 : 0 ≤ i
  · have hj : i.toNat = j := by
      rw [seqIndex_of h0 h5] at h1
      exact Option.some.inj h1
    exact item_listR pl.isList h0 (by omega) (by rw [hj]; simpa using ew) fin hs
  · have hj : (i + (its.toArray.size : Int)).toNat = j := by
      rw [seqIndex_neg (by omega) h4] at h1
      rw [List.size_toArray, ← hl]
      exact Option.some.inj h1
    exact subscriptTail_builtinR (x := w) pl.isList.typeIs slot_list_getitem.lookup
      (wpAny_getItem_list_neg (Q := fun r s' => r = w ∧ EP X pins σ Q r s') pl.isList (by omega) (by rw [List.size_toArray] <;> omega) (by omega) (by rw [hj]; simpa using ew) ⟨rfl, fin⟩) hs
/-- the list's object behind a store -/
theorem mapSeq_set (its : List Value) (n j : Nat) (u : Value) : Obj.mapSeq (·.setIfInBounds j u) { cls := .type "list", data := .seq its.toArray n } = { cls := .type "list", data := .seq (its.set j u).toArray n } := by
  simp [Obj.mapSeq]
theorem Inv.lst {pins : List (Addr × Obj)} {σ : St} {H : Hp} {s : Shared} {p : Addr} {xs : List V} (I : Inv X pins σ H s) (h : H p = some (.lst xs)) :
    ∃ (its : List Value) (n : Nat), Vals xs its ∧ s.heap.get? p = some { cls := .type "list", data := .seq its.toArray n } ∧ xs.length ≤ sizeLine := by
  obtain ⟨z, its, n, r, e⟩ := I.hok p _ h
  exact ⟨its, n, r, e, z⟩
/-- the list at p is written by an update of its object -/
theorem Inv.lstUpd {pins : List (Addr × Obj)} {σ : St} {H : Hp} {s : Shared} {p : Addr} {xs ys : List V} {its its' : List Value} {n n' : Nat} {f : Obj → Obj} (I : Inv X pins σ H s) (h : H p = some (.lst xs))
    (ho : s.heap.get? p = some { cls := .type "list", data := .seq its.toArray n }) (hf : f { cls := .type "list", data := .seq its.toArray n } = { cls := .type "list", data := .seq its'.toArray n' }) (r : Vals ys its') (hz : ys.length ≤ sizeLine) (t : Nat) :
    Inv X pins σ (upd H p (.lst ys)) { s with heap := s.heap.update p f, toks := t } := by
  have e : (s.heap.update p f).get? p = some { cls := .type "list", data := .seq its'.toArray n' } := by
    rw [Heap.get?_update_self f ho (by rw [hf] <;> rfl), hf]
  refine I.write (x := p) (e := p) (by rw [h]; trivial) (.inl rfl) (fun b u hb q => (Heap.get?_update_other _ _ (Ne.symm hb)).trans q) ⟨_, e⟩ ?_
  exact ⟨hz, its', n', r, e⟩
def rSetL : V → V → V → Hp → (Hp → Prop) → Prop := fun o i v H Q => ∃ p xs k j, o = .ref p ∧ i = .int k ∧ H p = some (.lst xs) ∧ ixN xs.length k = some j ∧ Q (upd H p (.lst (xs.set j v)))
theorem set_list : PSet X rSetL := by
  intro pins s σ H o i v ov iv u Q I ro ri rv h
  obtain ⟨p, xs, k, j, rfl, rfl, hp, hj, q⟩ := h
  cases ro
  obtain ⟨t, rfl⟩ := ri
  obtain ⟨its, n, r, ho, hz⟩ := I.lst hp
  obtain ⟨h1, h2, h3, h4⟩ := ixN_seq hj
  have hl := r.length
  have hn := line63
  have I' : Inv X pins σ (upd H p (.lst (xs.set j v))) { s with heap := s.heap.update p (Obj.mapSeq (·.setIfInBounds j u)) } :=
    I.lstUpd hp ho (mapSeq_set its n j u) (r.set rv j) (by rw [List.length_set]; exact hz) s.toks
  by_cases h0 : 0 ≤ k
  · have hk : k.toNat = j := by
      rw [seqIndex_of h0 h4] at h1
      exact Option.some.inj h1
    exact PySem.W.ki_setAt ho h0 (by omega) (by rw [List.size_toArray, ← hl]; exact h4) (by rw [hk]; exact ⟨_, I', q⟩)
  · have hk : (k + (its.toArray.size : Int)).toNat = j := by
      rw [seqIndex_neg (by omega) h3] at h1
      rw [List.size_toArray, ← hl]
      exact Option.some.inj h1
    exact PySem.W.ki_setBack ho (by omega) (by rw [List.size_toArray, ← hl]; exact h3) (by omega) (by rw [hk]; exact ⟨_, I', q⟩)

theorem slice_bounds (lo hi : Option Int) (n : Nat) : (sliceBounds lo hi none n).1 = ((HT.sIx n 0 lo : Nat) : Int) ∧ (sliceBounds lo hi none n).2.1 = ((HT.sIx n n hi : Nat) : Int) ∧ (sliceBounds lo hi none n).2.2 = 1 := by
  refine ⟨?_, ?_, rfl⟩
  · cases lo with
    | none => simp [sliceBounds, HT.sIx]
    | some i =>
      simp only [sliceBounds, HT.sIx, Option.getD_none, show (1 : Int) > 0 by decide, if_true]
      by_cases h : i < 0
      · simp only [h, if_true] <;> omega
      · simp only [h, if_false] <;> omega
  · cases hi with
    | none => simp [sliceBounds, HT.sIx]
    | some i =>
      simp only [sliceBounds, HT.sIx, Option.getD_none, show (1 : Int) > 0 by decide, if_true]
      by_cases h : i < 0
      · simp only [h, if_true] <;> omega
      · simp only [h, if_false] <;> omega
theorem slicePick_cut (its : List Value) (lo hi : Option Int) : slicePick its.toArray lo hi none = ((its.drop (HT.sIx its.length 0 lo)).take (HT.sIx its.length its.length hi - HT.sIx its.length 0 lo)).toArray := by
  obtain ⟨h1, h2, h3⟩ := slice_bounds lo hi its.toArray.size
  unfold slicePick
  rw [h1, h2, h3]
  simp only [sliceRange_one, pick_run, List.size_toArray] <;> rfl
/-- xs[lo:hi] of a list: a new list -/
def rSlL (K : PySem.W.Frag) : V → Option Int → Option Int → Hp → VK → Prop := fun x lo hi H Q => ∃ a xs, x = .ref a ∧ SqL K H a xs ∧ ∀ p, H p = none → Q (.ref p) (upd H p (.lst (cutV xs lo hi)))
theorem sl_list : SlR X (rSlL X.K) := by
  intro pins s σ H x v vl vu lo hi sl Q I rx hs pl pu h
  obtain ⟨a, xs, rfl, hx, q⟩ := h
  cases rx
  obtain ⟨its, r, ht, hz⟩ := I.list hx
  have hlen := r.length
  refine ⟨"list", _, slot_list_getitem.lookup, ht.isList.typeIs, ?_⟩
  refine wpAny_getItem_list_slice ht.isList hs pl pu .none (by simp) ?_ (by rw [List.size_toArray] <;> omega)
  rw [slicePick_cut, ← hlen]
  refine ⟨.ref s.heap.objs.size, _, I.laid (t' := s.toks) (o := .lst (cutV xs lo hi)) (fun b ob q => Heap.get?_push_of_some _ q) (Nat.le_refl _) ?_, rfl, q _ (I.hok.fresh (Nat.le_refl _))⟩
  exact ⟨Nat.le_trans (cutV_length xs lo hi) hz, _, 0, (r.drop (HT.sIx xs.length 0 lo)).take (HT.sIx xs.length xs.length hi - HT.sIx xs.length 0 lo), Heap.get?_push_size _ rfl⟩

theorem call_len_seq : CallR X (.builtin "len") (fun xs H Q => ∃ p ys, xs = [.ref p] ∧ (SqL X.K H p ys ∨ SqT X.K H p ys) ∧ Q (.int ys.length) H) := by
  intro pins s σ H xs us Q I r h
  obtain ⟨p, ys, rfl, hq, q⟩ := h
  obtain ⟨u, rfl, rx⟩ := vals1 r
  cases rx
  have hn := line63
  rcases hq with hq | hq
  · obtain ⟨its, r', pl, hz⟩ := I.list hq
    have hlen := r'.length
    exact Calls.call_len_list pl.isList (by simp only [List.size_toArray] <;> omega) ⟨.int ys.length, H, I.tok _, ⟨s.toks + 1, by rw [List.size_toArray, hlen]⟩, q⟩
  · obtain ⟨its, r', pl, hz⟩ := I.tuple hq
    have hlen := r'.length
    exact len_tuple pl (by simp only [List.size_toArray] <;> omega) ⟨.int ys.length, H, I.tok _, ⟨s.toks + 1, by rw [List.size_toArray, hlen]⟩, q⟩
theorem CallR.or {f : Value} {r r' : List V → Hp → VK → Prop} (h : CallR X f r) (h' : CallR X f r') : CallR X f (fun xs H Q => r xs H Q ∨ r' xs H Q) := by
  intro pins s σ H xs us Q I rs q
  rcases q with q | q
  · exact h pins s σ H xs us Q I rs q
  · exact h' pins s σ H xs us Q I rs q
theorem call_list_of : CallR X (.type "list") (fun xs H Q => ∃ p ys, xs = [.ref p] ∧ (SqL X.K H p ys ∨ SqT X.K H p ys) ∧ ∀ l, H l = none → Q (.ref l) (upd H l (.lst ys))) := by
  intro pins s σ H xs us Q I r h
  obtain ⟨p, ys, rfl, hq, q⟩ := h
  obtain ⟨u, rfl, rx⟩ := vals1 r
  cases rx
  have fin : ∀ (its : List Value), Vals ys its → ys.length ≤ sizeLine → ∀ (h' : Heap) (c' : Nat), (∀ b o', s.heap.get? b = some o' → h'.get? b = some o') →
      h'.get? s.heap.objs.size = some { cls := .type "list", dict := none, data := .seq its.toArray c', slots := #[] } → EP X pins σ Q (.ref s.heap.objs.size) { s with heap := h' } := fun its r' hz h' c' kp e =>
    ⟨.ref s.heap.objs.size, _, I.laid (t' := s.toks) kp (Nat.le_refl _) (show ObjOk X.prog X.w _ h' _ (.lst ys) from ⟨hz, its, c', r', e⟩), rfl, q _ (I.hok.fresh (Nat.le_refl _))⟩
  rcases hq with hq | hq
  · obtain ⟨its, r', pl, hz⟩ := I.list hq
    have hlen := r'.length
    obtain ⟨o, ho, hc, n, hd⟩ := pl.isList
    exact call_list_seq p (.inl rfl) ho hc hd (fun h' c' kp e => fin its r' hz h' c' kp e) (by simp only [List.size_toArray] <;> omega)
  · obtain ⟨its, r', pl, hz⟩ := I.tuple hq
    have hlen := r'.length
    obtain ⟨o, ho, hc, n, hd⟩ := pl
    exact call_list_seq p (.inr rfl) ho hc hd (fun h' c' kp e => fin its r' hz h' c' kp e) (by simp only [List.size_toArray] <;> omega)
/-- the value is of that builtin type -/
def tyV (K : PySem.W.Frag) (T : String) (x : V) (H : Hp) : Prop := match x with
  | .str _ => T = "str"
  | .int _ => T = "int"
  | .ref p => (T = "list" ∧ ∃ xs, SqL K H p xs) ∨ (T = "tuple" ∧ ∃ o, K.lookup p = some o ∧ o.cls = .type "tuple" ∧ o.dict = none) ∨
      (T = "dict" ∧ ((∃ kvs, H p = some (.dK kvs)) ∨ ∃ kvs, H p = some (.dT kvs))) ∨ (T = "set" ∧ ∃ S n, H p = some (.set S n))
  | _ => False
theorem tyV_is {pins : List (Addr × Obj)} {σ : St} {H : Hp} {s : Shared} {T : String} {x : V} {v : Value} (I : Inv X pins σ H s) (r : RelV x v) (ty : tyV X.K T x H) :
    s.TypeIs v T ∧ ∀ a, v = .ref a → ∃ ob, s.heap.get? a = some ob ∧ ob.dict = none := by
  cases x with
  | str z =>
    obtain ⟨t, rfl⟩ := r
    cases (show T = "str" from ty)
    exact ⟨typeIs_str s z t, fun _ e => nomatch e⟩
  | int i =>
    obtain ⟨t, rfl⟩ := r
    cases (show T = "int" from ty)
    exact ⟨typeIs_int s i t, fun _ e => nomatch e⟩
  | ref p =>
    cases r
    rcases ty with ⟨rfl, xs, hq⟩ | ⟨rfl, o, hk, hc, hd⟩ | ⟨rfl, hk⟩ | ⟨rfl, S, n, hk⟩
    · obtain ⟨its, _, pl, _⟩ := I.list hq
      refine ⟨pl.isList.typeIs, fun a e => ?_⟩
      cases e
      obtain ⟨o, n, e, c, hd, _⟩ := pl
      exact ⟨o, e, hd⟩
    · refine ⟨⟨o, I.kIn p o hk, hc⟩, fun a e => ?_⟩
      cases e
      exact ⟨o, I.kIn _ o hk, hd⟩
    · have z : ∃ o, s.heap.get? p = some o ∧ o.ExactDict := by
        rcases hk with ⟨kvs, hk⟩ | ⟨kvs, hk⟩
        · obtain ⟨_, _, _, _, o, _, _, e, ex, _⟩ := I.hok p _ hk
          exact ⟨o, e, ex⟩
        · obtain ⟨_, _, _, _, o, _, _, e, ex, _⟩ := I.hok p _ hk
          exact ⟨o, e, ex⟩
      obtain ⟨o, e, ex⟩ := z
      refine ⟨⟨o, e, ex.1⟩, fun a e2 => ?_⟩
      cases e2
      exact ⟨o, e, ex.2.1⟩
    · obtain ⟨o, _, _, _, e, ex, _⟩ := I.hok p _ hk
      refine ⟨⟨o, e, ex.1⟩, fun a e2 => ?_⟩
      cases e2
      exact ⟨o, e, ex.2.1⟩
  | _ => exact False.elim ty
def tBM0 (K : PySem.W.Frag) (T : String) (r : V → List V → Hp → VK → Prop) (to : TE) : TE := fun σ H Q => to σ H fun x H1 => tyV K T x H1 ∧ r x [] H1 Q
def tBM (K : PySem.W.Frag) (T : String) (r : V → List V → Hp → VK → Prop) (to : TE) (t : TA) : TE := fun σ H Q => to σ H fun x H1 => tyV K T x H1 ∧ t σ H1 fun xs H2 => r x xs H2 Q
variable {o e : Expr} {es : List Expr} {to : TE} {t : TA} {name : Str} {apos cpos : Pos} {T id : String} {r : V → List V → Hp → VK → Prop}
theorem pe_bm0 (pa : PlainAttrs T) (slot : Slot T name id) (hty : typeOf (.builtin id) = pure (.type "method_descriptor")) (hm : MtR X id r) (ho : PE X o to)
    (hbase : attributeBase o name X.env (eval o X.env) = eval o X.env := by rfl) (hline : (apos.endLine == cpos.line) = true := by rfl) : PE X (.Call (.Attribute o name apos) [] [] cpos) (tBM0 X.K T r to) := by
  intro pins s σ H Q I h
  refine wpAny_Call_method0_late hbase hline (thn (ho pins s σ H _ I h) fun v s1 ⟨x, H1, I1, r1, ty, q1⟩ => ?_)
  obtain ⟨h1, h2⟩ := tyV_is I1 r1 ty
  exact ⟨T, id, pa, slot, hty, h1, h2, Calls.callWith_builtin rfl (PySem.evalArgs_none (hm pins s1 σ H1 x [] v [] Q I1 r1 .nil q1))⟩
theorem pe_bm (pa : PlainAttrs T) (slot : Slot T name id) (hty : typeOf (.builtin id) = pure (.type "method_descriptor")) (hm : MtR X id r) (ho : PE X o to) (ha : PA X (e :: es) t)
    (hbase : attributeBase o name X.env (eval o X.env) = eval o X.env := by rfl)
    (hfew : ((backTo cpos (starEach (e :: es) X.env)).all (fun x => !x.1) && (backToKw cpos (keywordEach [] X.env)).all (fun x => x.1.isSome)
      && decide ((e :: es).length + ([] : List Keyword).length + (if ([] : List Keyword).isEmpty then 0 else 1) < 30)) = true := by rfl)
    (hline : (apos.endLine == cpos.line) = true := by rfl) (hs : starEach (e :: es) X.env = (false, eval e X.env) :: starEach es X.env := by rfl) (hplain : (backTo cpos (starEach es X.env)).any (·.1) = false := by rfl) :
    PE X (.Call (.Attribute o name apos) (e :: es) [] cpos) (tBM X.K T r to t) := by
  intro pins s σ H Q I h
  refine wpAny_Call_method_late hbase hfew hline rfl (thn (ho pins s σ H _ I h) fun v s1 ⟨x, H1, I1, r1, ty, q1⟩ => ?_)
  obtain ⟨h1, h2⟩ := tyV_is I1 r1 ty
  refine ⟨T, id, pa, slot, hty, h1, h2, ?_⟩
  have hA := ha cpos pins s1 σ H1 _ I1 q1
  rw [hs] at hA ⊢
  refine Calls.callWith_builtin (by show (false || (backTo cpos (starEach es X.env)).any (·.1)) = false; rw [hplain] <;> rfl) (Calls.evalArgs_plain ?_)
  exact thn hA fun us s2 ⟨vs, H2, I2, r2, q2⟩ => hm pins s2 σ H2 x vs v us Q I2 r1 r2 q2
end
end L2

namespace L2
open PySem PySem.Spec PyProof.Rows

def MtM (X : Cx) (id : String) (r : V → List V → Hp → VK → Prop) : Prop :=
  ∀ (pins : List (Addr × Obj)) (s : Shared) (σ : St) (H : Hp) (x : V) (xs : List V) (v : Value) (us : List Value) (Q : VK), Inv X pins σ H s → RelV x v → Vals xs us → r x xs H Q →
    wpAny (model X.prog X.w) X.A (call (.builtin id) (v :: us)) (EP X pins σ Q) X.xe s

theorem Vals.one : ∀ {x : V} {us : List Value}, Vals [x] us → ∃ u, us = [u] ∧ RelV x u
  | _, _, .cons r .nil => ⟨_, rfl, r⟩
theorem Vals.two : ∀ {x y : V} {us : List Value}, Vals [x, y] us → ∃ u v, us = [u, v] ∧ RelV x u ∧ RelV y v
  | _, _, _, .cons r (.cons q .nil) => ⟨_, _, rfl, r, q⟩
theorem Vals.zero : ∀ {us : List Value}, Vals [] us → us = []
  | _, .nil => rfl
theorem Vals.dropLast {xs : List V} {us : List Value} (h : Vals xs us) : Vals xs.dropLast us.dropLast := by
  induction h with
  | nil => exact .nil
  | cons r t ih =>
    cases t with
    | nil => exact .nil
    | cons q t' => exact .cons r ih
theorem Vals.eraseIdx : ∀ {xs : List V} {us : List Value} (i : Nat), Vals xs us → Vals (xs.eraseIdx i) (us.eraseIdx i)
  | _, _, _, .nil => .nil
  | _, _, 0, .cons _ t => t
  | _, _, i + 1, .cons r t => .cons r (Vals.eraseIdx i t)
theorem Vals.reverse {xs : List V} {us : List Value} (h : Vals xs us) : Vals xs.reverse us.reverse := by
  induction h with
  | nil => exact .nil
  | cons r t ih => rw [List.reverse_cons, List.reverse_cons]; exact Vals.append ih (.cons r .nil)
theorem Vals.rep {xs : List V} {us : List Value} (h : Vals xs us) : ∀ k : Nat, Vals (List.replicate k xs).flatten (List.replicate k us).flatten
  | 0 => .nil
  | k + 1 => by
    rw [List.replicate_succ, List.replicate_succ, List.flatten_cons, List.flatten_cons]
    exact Vals.append h (Vals.rep h k)
theorem erase_last {α : Type} (l : List α) : l.eraseIdx (l.length - 1) = l.dropLast := by
  induction l with
  | nil => rfl
  | cons a r ih =>
    cases r with
    | nil => rfl
    | cons b r =>
      have e : (a :: b :: r).length - 1 = ((b :: r).length - 1) + 1 := by
        have h1 : (a :: b :: r).length = r.length + 2 := rfl
        have h2 : (b :: r).length = r.length + 1 := rfl
        omega
      rw [e, List.eraseIdx_cons_succ, ih]
      all_goals rfl
theorem len_erase {α : Type} : ∀ (l : List α) (i : Nat), (l.eraseIdx i).length ≤ l.length
  | [], _ => Nat.le_refl _
  | _ :: _, 0 => Nat.le_succ _
  | _ :: r, i + 1 => Nat.succ_le_succ (len_erase r i)
theorem foldl_rep (its : List Value) : ∀ (k : Nat) (acc : List Value),
    List.foldl (fun x1 x2 => x1 ++ x2) acc.toArray (List.replicate k its.toArray) = (acc ++ (List.replicate k its).flatten).toArray
  | 0, acc => by simp
  | k + 1, acc => by
    have e : acc.toArray ++ its.toArray = (acc ++ its).toArray := by simp
    have e2 : (acc ++ its) ++ (List.replicate k its).flatten = acc ++ (List.replicate (k + 1) its).flatten := by
      rw [List.replicate_succ, List.flatten_cons, List.append_assoc]
    rw [← e2, ← foldl_rep its k (acc ++ its), ← e, List.replicate_succ, List.foldl_cons]

section
variable {X : Cx} {pins : List (Addr × Obj)} {σ : St} {H : Hp} {s : Shared} {l b : Addr} {xs ys zs : List V}

theorem Inv.lset {its its' : List Value} {n : Nat} {f : Array Value → Array Value} {t' : Nat} (I : Inv X pins σ H s) (hH : H l = some (.lst xs))
    (e : s.heap.get? l = some { cls := .type "list", data := .seq its.toArray n }) (hf : f its.toArray = its'.toArray) (hv : Vals ys its') (hz : ys.length ≤ sizeLine) :
    Inv X pins σ (upd H l (.lst ys)) { s with heap := s.heap.update l (Obj.mapSeq f), toks := t' } := by
  have q := PySem.IsL.update e f
  rw [hf] at q
  refine I.write (x := l) (e := l) (by rw [hH]; exact trivial) (.inl rfl) (fun b' u hb hu => (Heap.get?_update_other s.heap (Obj.mapSeq f) (Ne.symm hb)).trans hu) ⟨_, q⟩ ?_
  exact ⟨hz, its', _, hv, q⟩
theorem Inv.lnew {its : List Value} {t' : Nat} (I : Inv X pins σ H s) (hv : Vals ys its) (hz : ys.length ≤ sizeLine) :
    Inv X pins σ (upd H s.heap.objs.size (.lst ys)) { s with heap := s.heap.push { cls := .type "list", data := .seq its.toArray }, toks := t' } :=
  I.laid (fun _ _ q => Heap.get?_push_of_some _ q) (Nat.le_refl _) ⟨hz, its, 0, hv, Heap.get?_push_size _ rfl⟩
theorem Inv.fresh (I : Inv X pins σ H s) : H s.heap.objs.size = none := I.hok.fresh (Nat.le_refl _)
theorem Inv.lstM (I : Inv X pins σ H s) (hH : H l = some (.lst xs)) : xs.length ≤ sizeLine ∧ ∃ (its : List Value) (n : Nat), Vals xs its ∧ xs.length = its.length ∧ s.heap.get? l = some { cls := .type "list", data := .seq its.toArray n } := by
  obtain ⟨z, its, n, r, e⟩ := I.hok l _ hH
  exact ⟨z, its, n, r, r.length, e⟩

theorem notLongL {n : Nat} (h : n ≤ sizeLine) : Builtin.List.listTooLong n = false := by
  unfold Builtin.List.listTooLong
  exact decide_eq_false (by omega)
end

section
variable {X : Cx}

def rAppend : V → List V → Hp → VK → Prop := fun x vs H Q => ∃ l xs y, x = .ref l ∧ vs = [y] ∧ H l = some (.lst xs) ∧ xs.length < sizeLine ∧ Q .non (upd H l (.lst (xs ++ [y])))
theorem mt_append : MtM X "list.append" rAppend := by
  intro pins s σ H x vs v us Q I rx rv h
  obtain ⟨l, xs, y, rfl, rfl, hH, hz, q⟩ := h
  cases rx
  obtain ⟨u, rfl, ru⟩ := rv.one
  obtain ⟨z, its, n, r, hl, e⟩ := I.lstM hH
  refine call_meets F.slot_list_append ⟨_, e, rfl⟩ F.entry_list_append (F.args_list_append_2 _ _) (PySem.list_append l its.toArray n u (by rw [List.size_toArray]; omega)) ⟨e, ?_⟩
  refine ⟨.non, _, I.lset (its' := its ++ [u]) hH e (by simp) (r.append (.cons ru .nil)) ?_, rfl, q⟩
  rw [List.length_append, List.length_singleton]
  omega

def rPop : V → List V → Hp → VK → Prop := fun x vs H Q => ∃ l xs y, x = .ref l ∧ vs = [] ∧ H l = some (.lst xs) ∧ xs[xs.length - 1]? = some y ∧ Q y (upd H l (.lst xs.dropLast))
theorem mt_pop : MtM X "list.pop" rPop := by
  intro pins s σ H x vs v us Q I rx rv h
  obtain ⟨l, xs, y, rfl, rfl, hH, hy, q⟩ := h
  cases rx
  have hus := rv.zero
  subst hus
  obtain ⟨z, its, n, r, hl, e⟩ := I.lstM hH
  obtain ⟨u, hu, ru⟩ := r.get hy
  have hy' : its.toArray[its.toArray.size - 1]? = some u := by
    show its.toArray[its.length - 1]? = some u
    rw [← Array.getElem?_toList, ← hl]
    exact hu
  refine call_meets F.slot_list_pop ⟨_, e, rfl⟩ F.entry_list_pop (F.args_list_pop_1 _) (MeetsSeq.list_pop_last l its.toArray n u hy' (by rw [List.size_toArray]; omega)) ⟨e, ?_⟩
  refine ⟨y, _, I.lset (its' := its.dropLast) hH e ?_ r.dropLast ?_, ru, q⟩
  · show its.toArray.eraseIdxIfInBounds (its.toArray.size - 1) = its.dropLast.toArray
    rw [List.size_toArray, List.eraseIdxIfInBounds_toArray, erase_last]
  · rw [List.length_dropLast]
    omega

def rPopAt : V → List V → Hp → VK → Prop := fun x vs H Q => ∃ l xs i k y, x = .ref l ∧ vs = [.int i] ∧ H l = some (.lst xs) ∧ -(2 ^ 63) ≤ i ∧ i < 2 ^ 63 ∧ seqIndex? i xs.length = some k ∧ xs[k]? = some y ∧ Q y (upd H l (.lst (xs.eraseIdx k)))
theorem mt_popAt : MtM X "list.pop" rPopAt := by
  intro pins s σ H x vs v us Q I rx rv h
  obtain ⟨l, xs, i, k, y, rfl, rfl, hH, h1, h2, hk, hy, q⟩ := h
  cases rx
  obtain ⟨u, rfl, ru⟩ := rv.one
  obtain ⟨t, rfl⟩ := ru
  obtain ⟨z, its, n, r, hl, e⟩ := I.lstM hH
  obtain ⟨w, hw, rw'⟩ := r.get hy
  refine call_meets F.slot_list_pop ⟨_, e, rfl⟩ F.entry_list_pop (F.args_list_pop_2 _ _)
    (MeetsSeq.list_pop_at l its.toArray n i t k w (fitsIndex_both h1 h2) (by rw [List.size_toArray, ← hl]; exact hk) (by rw [← Array.getElem?_toList]; exact hw) (by rw [List.size_toArray]; omega)) ⟨e, ?_⟩
  refine ⟨y, _, I.lset (its' := its.eraseIdx k) hH e ?_ (r.eraseIdx k) ?_, rw', q⟩
  · show its.toArray.eraseIdxIfInBounds k = (its.eraseIdx k).toArray
    rw [List.eraseIdxIfInBounds_toArray]
  · have := len_erase xs k
    omega

def rCat : R2 := fun x y H Q => ∃ l b xs zs, x = .ref l ∧ y = .ref b ∧ H l = some (.lst xs) ∧ H b = some (.lst zs) ∧ xs.length + zs.length ≤ sizeLine ∧ ∀ p, H p = none → Q (.ref p) (upd H p (.lst (xs ++ zs)))
theorem op_cat : OpR X (binaryOp .Add) rCat := by
  intro pins s σ H x y v u Q I rx ry h
  obtain ⟨l, b, xs, zs, rfl, rfl, hH, hB, hz, q⟩ := h
  cases rx
  cases ry
  obtain ⟨z, its, n, r, hl, e⟩ := I.lstM hH
  obtain ⟨z2, its2, n2, r2, hl2, e2⟩ := I.lstM hB
  refine PySem.P.add_list e e2 ?_ (by rw [List.size_toArray, List.size_toArray]; omega)
  have ea : its.toArray ++ its2.toArray = (its ++ its2).toArray := by simp
  rw [ea]
  exact ⟨.ref _, _, I.lnew (t' := s.toks) (r.append r2) (by rw [List.length_append]; omega), rfl, q _ I.fresh⟩
/-- a list times an int (a negative one is nothing) -/
def rRep : R2 := fun x y H Q => ∃ l k xs, x = .ref l ∧ y = .int k ∧ H l = some (.lst xs) ∧ -(2 ^ 63) ≤ k ∧ k < 2 ^ 63 ∧ xs.length * k.toNat ≤ sizeLine ∧
  ∀ p, H p = none → Q (.ref p) (upd H p (.lst (List.replicate k.toNat xs).flatten))
theorem len_rep {α : Type} (xs : List α) (k : Nat) : (List.replicate k xs).flatten.length = k * xs.length := by
  induction k with
  | zero => simp
  | succ k ih => rw [List.replicate_succ, List.flatten_cons, List.length_append, ih, Nat.succ_mul, Nat.add_comm]
theorem op_rep : OpR X (binaryOp .Mult) rRep := by
  intro pins s σ H x y v u Q I rx ry h
  obtain ⟨l, k, xs, rfl, rfl, hH, h1, h2, hz, q⟩ := h
  cases rx
  obtain ⟨t, rfl⟩ := ry
  obtain ⟨z, its, n, r, hl, e⟩ := I.lstM hH
  have hlen : its.toArray.size * k.toNat ≤ sizeLine := by rw [List.size_toArray, ← hl]; exact hz
  have hcap : ¬ its.toArray.size * k.toNat > (2 ^ 63 - 1) / 8 := by
    have : (sizeLine : Nat) ≤ (2 ^ 63 - 1) / 8 := by decide
    omega
  have hfit : ¬ (!Builtin.List.listFitsIndex k) = true := by
    rw [fitsIndex_both h1 h2]
    exact Bool.false_ne_true
  have hlong : ¬ Builtin.List.listTooLong (its.toArray.size * k.toNat) = true := by
    rw [notLongL hlen]
    exact Bool.false_ne_true
  have hnew : List.foldl (fun x1 x2 => x1 ++ x2) #[] (List.replicate (if its.toArray.isEmpty = true then 0 else k.toNat) its.toArray) = (List.replicate k.toNat its).flatten.toArray := by
    have f0 : ∀ m : Nat, List.foldl (fun x1 x2 => x1 ++ x2) #[] (List.replicate m its.toArray) = (List.replicate m its).flatten.toArray := fun m => by
      have := foldl_rep its m []
      rw [List.nil_append] at this
      exact this
    rw [f0]
    cases its with
    | nil => simp
    | cons a r' => rw [if_neg (by simp)]
  refine wpAny_binaryOp_repeat_ref (T := "list") (U := "int") (by decide) ⟨_, e, rfl⟩ (fun s' => typeIs_int s' k t) noFill_list_mul F.fills_int_mul F.slot_int_rmul repeat_list F.slot_int_index.lookup
    (call_meets F.slot_int_rmul (typeIs_int s k t) F.entry_int_rmul (F.args_int_rmul_2 _ _) (int___rmul___int_list k t l its.toArray n)
      ⟨e, rfl, ⟨_, e, rfl⟩, call_meets F.slot_list_mul ⟨_, e, rfl⟩ F.entry_list_mul (F.args_list_mul_2 _ _) (AutoListH.list___mul___list_int_3 l its.toArray n k t hfit hcap hlong) ⟨e, ?_⟩⟩)
  rw [hnew]
  exact ⟨.ref _, _, I.lnew (t' := s.toks) (r.rep k.toNat) (by rw [len_rep, Nat.mul_comm]; exact hz), rfl, q _ I.fresh⟩

end

section
variable {prog : Program} {w : World} {A : Around} {E : Value → Shared → Prop} {s : Shared}
end

section
variable {X : Cx}
end
end L2

namespace L2
open PySem PySem.Spec PyProof.Rows

theorem Vals.ints : ∀ {ns : List Int} {us : List Value}, Vals (ns.map V.int) us → IntsAre us ns
  | [], us, h => by
    rw [List.map_nil] at h
    cases h
    exact IntsAre.nil
  | n :: ns, us, h => by
    rw [List.map_cons] at h
    cases h with
    | cons r t =>
      obtain ⟨k, rfl⟩ := r
      exact IntsAre.cons n k (Vals.ints t)
theorem vals_of_ints : ∀ {us : List Value} {ns : List Int}, IntsAre us ns → Vals (ns.map V.int) us
  | _, _, .nil => by rw [List.map_nil]; exact Paired.nil
  | _, _, .cons n t h => by rw [List.map_cons]; exact Paired.cons (show RelV (V.int n) (Value.int n t) from ⟨t, rfl⟩) (vals_of_ints h)
theorem Vals.strs : ∀ {xs : List Str} {us : List Value}, Vals (xs.map V.str) us → StrsAre us xs
  | [], us, h => by
    rw [List.map_nil] at h
    cases h
    exact StrsAre.nil
  | x :: xs, us, h => by
    rw [List.map_cons] at h
    cases h with
    | cons r t =>
      obtain ⟨k, rfl⟩ := r
      exact StrsAre.cons x k (Vals.strs t)
theorem Vals.bls : ∀ {bs : List Bool} {us : List Value}, Vals (bs.map V.bl) us → us = bs.map Value.bool
  | [], us, h => by
    rw [List.map_nil] at h
    cases h
    rfl
  | b :: bs, us, h => by
    rw [List.map_cons] at h
    cases h with
    | cons r t =>
      cases r
      rw [Vals.bls t, List.map_cons]
theorem Vals.ref1 {a : Addr} {us : List Value} (r : Vals [V.ref a] us) : us = [Value.ref a] := by
  cases r with
  | cons r t =>
    cases t
    cases r
    rfl
section
variable {prog : Program} {w : World} {A : Around} {E : Value → Shared → Prop} {s : Shared} {l : Addr} {its : List Value} {ns : List Int} {Q : Value → Shared → Prop}
end

section
variable {X : Cx}
end

section
variable {X : Cx}
end

section
variable {X : Cx}
end

section
variable {X : Cx}
end

mutual
inductive Dp (K : PySem.W.Frag) (H : Hp) : V → PyData → Prop
  | non : Dp K H .non .none
  | bl (b : Bool) : Dp K H (.bl b) (.bool b)
  | int (i : Int) : Dp K H (.int i) (.int i)
  | str (x : Str) : Dp K H (.str x) (.str x)
  | lst {a : Addr} {xs : List V} {ds : List PyData} : SqL K H a xs → DpAll K H xs ds → Dp K H (.ref a) (.list ds)
  | tup {a : Addr} {xs : List V} {ds : List PyData} : SqT K H a xs → DpAll K H xs ds → Dp K H (.ref a) (.tuple ds)
inductive DpAll (K : PySem.W.Frag) (H : Hp) : List V → List PyData → Prop
  | nil : DpAll K H [] []
  | cons {v : V} {vs : List V} {d : PyData} {ds : List PyData} : Dp K H v d → DpAll K H vs ds → DpAll K H (v :: vs) (d :: ds)
end
section
variable {X : Cx} {pins : List (Addr × Obj)} {σ : St} {H : Hp} {s : Shared}
mutual
theorem Dp.reads (I : Inv X pins σ H s) : ∀ (d : PyData) (v : V) (u : Value), Dp X.K H v d → RelV v u → ∃ as, Reads s.heap u d as
  | .none, _, _, h, r => by
    cases h
    cases r
    exact ⟨_, Reads.none⟩
  | .bool b, _, _, h, r => by
    cases h
    cases r
    exact ⟨_, Reads.bool b⟩
  | .int i, _, _, h, r => by
    cases h
    obtain ⟨t, rfl⟩ := r
    exact ⟨_, Reads.int i t⟩
  | .str x, _, _, h, r => by
    cases h
    obtain ⟨t, rfl⟩ := r
    exact ⟨_, Reads.str x t⟩
  | .list ds, _, _, h, r => by
    cases h with
    | lst hs ha =>
      cases r
      obtain ⟨its, rv, ⟨o, n, ho, hc, _, hd⟩, _⟩ := I.list hs
      obtain ⟨as, hr⟩ := Dp.readsAll I ds _ its ha rv
      exact ⟨_, Reads.list ho hc hd hr⟩
  | .tuple ds, _, _, h, r => by
    cases h with
    | tup hs ha =>
      cases r
      obtain ⟨its, rv, ⟨o, ho, hc, n, hd⟩, _⟩ := I.tuple hs
      obtain ⟨as, hr⟩ := Dp.readsAll I ds _ its ha rv
      exact ⟨_, Reads.tuple ho hc hd hr⟩
  | .dict _, _, _, h, _ => by cases h
theorem Dp.readsAll (I : Inv X pins σ H s) : ∀ (ds : List PyData) (vs : List V) (us : List Value), DpAll X.K H vs ds → Vals vs us → ∃ as, ReadsAll s.heap us ds as
  | [], _, _, h, r => by
    cases h
    cases r
    exact ⟨_, ReadsAll.nil⟩
  | d :: ds, _, _, h, r => by
    cases h with
    | cons h1 h2 =>
      cases r with
      | cons r1 r2 =>
        obtain ⟨as, q1⟩ := Dp.reads I d _ _ h1 r1
        obtain ⟨bs, q2⟩ := Dp.readsAll I ds _ _ h2 r2
        exact ⟨_, ReadsAll.cons q1 q2⟩
end
end
section
variable {X : Cx}
def rEqD (K : PySem.W.Frag) : R2 := fun x y H Q => ∃ d e, Dp K H x d ∧ Dp K H y e ∧ SeqAt.shaped d = true ∧ SeqAt.shaped e = true ∧ Q (.bl (PyData.eqv d e)) H
def rNeD (K : PySem.W.Frag) : R2 := fun x y H Q => ∃ d e, Dp K H x d ∧ Dp K H y e ∧ SeqAt.shaped d = true ∧ SeqAt.shaped e = true ∧ Q (.bl (!PyData.eqv d e)) H
theorem op_eqD (hu : X.A.units + 64 < cLine) : OpR X (compareOp .Eq) (rEqD X.K) := by
  intro pins s σ H x y v u Q I rx ry h
  obtain ⟨d, e, hd, he, sd, se, q⟩ := h
  obtain ⟨as, r1⟩ := Dp.reads I d x v hd rx
  obtain ⟨bs, r2⟩ := Dp.reads I e y u he ry
  exact SeqAt.compareEq_shaped r1 r2 sd se hu ⟨.bl _, H, I, rfl, q⟩
theorem op_neD (hu : X.A.units + 64 < cLine) : OpR X (compareOp .NotEq) (rNeD X.K) := by
  intro pins s σ H x y v u Q I rx ry h
  obtain ⟨d, e, hd, he, sd, se, q⟩ := h
  obtain ⟨as, r1⟩ := Dp.reads I d x v hd rx
  obtain ⟨bs, r2⟩ := Dp.reads I e y u he ry
  exact SeqAt.compareNe_shaped r1 r2 sd se hu ⟨.bl _, H, I, rfl, q⟩
end
end L2

namespace L2
open PySem PySem.Spec PyProof.Rows
abbrev CellAt (h : Heap) (c : Addr) (v : Option Value) : Prop := h.IsCell c v
def relS (scope sc : Scope) : Scope :=
  { scope with names := scope.names.map fun (n, k) => if (k == .free && sc.kind == .function && sc.names.lookup n == some .cell) then (n, .cell) else (n, k) }

def cloFrom (cells : List (Str × Addr)) : List (Str × NameKind) → List (Str × Addr) → List (Str × Addr)
  | [], acc => acc
  | (n, k) :: r, acc => if k == .free then cloFrom cells r ((n, (cells.lookup n).getD 0) :: acc) else cloFrom cells r acc

theorem closure_loop (env : Env) (f : Str × NameKind → List (Str × Addr) → Sem (ForInStep (List (Str × Addr))))
    (hf : ∀ n k c, f (n, k) c = if k == .free then (do let a ← cellOf env n; pure (.yield ((n, a) :: c))) else pure (.yield c)) :
    ∀ (names : List (Str × NameKind)) (acc : List (Str × Addr)), (∀ y ∈ names, y.2 = .free → ∃ c, env.cells.lookup y.1 = some c) → forIn names acc f = pure (cloFrom env.cells names acc)
  | [], acc, _ => by rw [List.forIn_nil]; rfl
  | (n, k) :: r, acc, h => by
    rw [List.forIn_cons, hf]
    have ih := fun acc => closure_loop env f hf r acc fun y hy => h y (List.mem_cons_of_mem _ hy)
    unfold cloFrom
    by_cases hk : (k == NameKind.free) = true
    · rw [if_pos hk, if_pos hk]
      obtain ⟨c, hc⟩ := h (n, k) List.mem_cons_self (by simpa using hk)
      have e : cellOf env n = pure c := by unfold cellOf; rw [hc]
      rw [e]
      have e2 : (env.cells.lookup n).getD 0 = c := by rw [hc]; rfl
      rw [e2]
      exact ih _
    · rw [if_neg hk, if_neg hk]
      exact ih _
theorem closure_ok {scope : Scope} {env : Env} (h : ∀ y ∈ scope.names, y.2 = .free → ∃ c, env.cells.lookup y.1 = some c) : closureFor scope env = pure (cloFrom env.cells scope.names []) := by
  simp only [closureFor]
  rw [closure_loop env _ (fun n k c => rfl) scope.names [] h]
  rfl

theorem mem_lookup {α : Type} : ∀ {l : List (Str × α)} {n : Str} {c : α}, (n, c) ∈ l → ∃ c', l.lookup n = some c'
  | (k, v) :: r, n, c, h => by
    rw [List.lookup_cons]
    cases hb : n == k with
    | true => exact ⟨_, rfl⟩
    | false =>
      rcases List.mem_cons.mp h with e | h
      · cases e; simp at hb
      · exact mem_lookup h

theorem cloFrom_mem {cells : List (Str × Addr)} : ∀ {names : List (Str × NameKind)} {acc : List (Str × Addr)} {n : Str} {c : Addr}, (n, c) ∈ cloFrom cells names acc → (n, c) ∈ acc ∨ ((n, .free) ∈ names ∧ c = (cells.lookup n).getD 0)
  | [], _, _, _, h => .inl h
  | (m, k) :: r, acc, n, c, h => by
    unfold cloFrom at h
    split at h
    · rename_i hk
      have hk : k = .free := by simpa using hk
      rcases cloFrom_mem h with h | ⟨h1, h2⟩
      · rcases List.mem_cons.mp h with e | h
        · cases e; exact .inr ⟨hk ▸ List.mem_cons_self, rfl⟩
        · exact .inl h
      · exact .inr ⟨List.mem_cons_of_mem _ h1, h2⟩
    · rcases cloFrom_mem h with h | ⟨h1, h2⟩
      · exact .inl h
      · exact .inr ⟨List.mem_cons_of_mem _ h1, h2⟩
theorem cloFrom_acc {cells : List (Str × Addr)} : ∀ {names : List (Str × NameKind)} {acc : List (Str × Addr)} {p : Str × Addr}, p ∈ acc → p ∈ cloFrom cells names acc
  | [], _, _, h => h
  | (m, k) :: r, acc, p, h => by
    unfold cloFrom
    split
    · exact cloFrom_acc (List.mem_cons_of_mem _ h)
    · exact cloFrom_acc h
theorem cloFrom_has {cells : List (Str × Addr)} : ∀ {names : List (Str × NameKind)} {acc : List (Str × Addr)} {n : Str}, (n, .free) ∈ names → (n, (cells.lookup n).getD 0) ∈ cloFrom cells names acc
  | (m, k) :: r, acc, n, h => by
    unfold cloFrom
    rcases List.mem_cons.mp h with e | h
    · cases e
      exact cloFrom_acc List.mem_cons_self
    · split
      · exact cloFrom_has h
      · exact cloFrom_has h

theorem cells_mem : ∀ {names : List (Str × NameKind)} {h : Heap} {acc : List (Str × Addr)} {x : Str} {c : Addr}, (x, c) ∈ cellsFrom h.objs.size names acc →
    (x, c) ∈ acc ∨ ((x, .cell) ∈ names ∧ h.objs.size ≤ c ∧ CellAt (pushCells h names) c none)
  | [], _, _, _, _, h => .inl h
  | (n, k) :: r, h, acc, x, c, hm => by
    unfold cellsFrom at hm
    unfold pushCells
    split at hm
    · rename_i hk
      rw [if_pos hk]
      have hk : k = .cell := by simpa using hk
      rw [← Heap.size_push h { cls := .type "cell", data := .cell none }] at hm
      rcases cells_mem hm with hm | ⟨h1, h2, h3⟩
      · rcases List.mem_cons.mp hm with e | hm
        · cases e
          exact .inr ⟨hk ▸ List.mem_cons_self, Nat.le_refl _, _, pushCells_keeps r _ _ _ (Heap.get?_push_size _ rfl), rfl⟩
        · exact .inl hm
      · rw [Heap.size_push] at h2
        exact .inr ⟨List.mem_cons_of_mem _ h1, Nat.le_of_succ_le h2, h3⟩
    · rename_i hk
      rw [if_neg hk]
      rcases cells_mem hm with hm | ⟨h1, h2, h3⟩
      · exact .inl hm
      · exact .inr ⟨List.mem_cons_of_mem _ h1, h2, h3⟩
theorem cells_acc : ∀ {names : List (Str × NameKind)} {n : Nat} {acc : List (Str × Addr)} {p : Str × Addr}, p ∈ acc → p ∈ cellsFrom n names acc
  | [], _, _, _, h => h
  | (m, k) :: r, n, acc, p, h => by
    unfold cellsFrom
    split
    · exact cells_acc (List.mem_cons_of_mem _ h)
    · exact cells_acc h
theorem cells_has : ∀ {names : List (Str × NameKind)} {n : Nat} {acc : List (Str × Addr)} {x : Str}, (x, .cell) ∈ names → ∃ c, (x, c) ∈ cellsFrom n names acc
  | (m, k) :: r, n, acc, x, h => by
    unfold cellsFrom
    rcases List.mem_cons.mp h with e | h
    · cases e
      exact ⟨n, cells_acc List.mem_cons_self⟩
    · split
      · exact cells_has h
      · exact cells_has h
theorem cells_inj : ∀ {names : List (Str × NameKind)} {h : Heap} {acc : List (Str × Addr)} {x y : Str} {c : Addr}, (∀ p ∈ acc, p.2 < h.objs.size) → (∀ x y c, (x, c) ∈ acc → (y, c) ∈ acc → x = y) →
    (x, c) ∈ cellsFrom h.objs.size names acc → (y, c) ∈ cellsFrom h.objs.size names acc → x = y
  | [], _, _, _, _, _, _, hi, h1, h2 => hi _ _ _ h1 h2
  | (n, k) :: r, h, acc, x, y, c, hl, hi, h1, h2 => by
    unfold cellsFrom at h1 h2
    split at h1
    · rename_i hk
      rw [if_pos hk] at h2
      rw [← Heap.size_push h { cls := .type "cell", data := .cell none }] at h1 h2
      refine cells_inj (h := h.push _) (fun p hp => ?_) (fun x y c a b => ?_) h1 h2
      · rw [Heap.size_push]
        rcases List.mem_cons.mp hp with rfl | hp
        · exact Nat.lt_succ_self _
        · exact Nat.lt_succ_of_lt (hl p hp)
      · rcases List.mem_cons.mp a with e | a <;> rcases List.mem_cons.mp b with e' | b
        · cases e; cases e'; rfl
        · cases e; exact absurd (hl _ b) (Nat.lt_irrefl _)
        · cases e'; exact absurd (hl _ a) (Nat.lt_irrefl _)
        · exact hi _ _ _ a b
    · rename_i hk
      rw [if_neg hk] at h2
      exact cells_inj hl hi h1 h2

theorem newEnv_comp {M : Model} {A : Around} {E : Value → Shared → Prop} {s : Shared} {scope : Scope} {globals : Addr} {closure : List (Str × Addr)} {qual : Str} {func : Option Addr} {code : Value} {around : Env} {builtins : Addr} {Q : Env → Shared → Prop}
    (h : Q (newEnv scope s.heap.objs.size globals (cellsFrom (s.heap.objs.size + 1) scope.names closure) qual func code (some around) builtins)
      { s with heap := pushCells (s.heap.push { cls := .type "dict", data := .dict #[] }) scope.names }) :
    wpAny M A (newFunctionEnv scope globals closure [] qual func code (some around) builtins) Q E s := by
  simp only [newFunctionEnv, Option.isSome_some, if_true]
  refine wpAny_bind (wpAny_alloc ?_)
  refine wpAny_bind (wpAny_layCells _ (fun n k c => rfl) scope.names closure _ _ ?_)
  rw [show ({ s with heap := s.heap.push { cls := .type "dict", data := .dict #[] } } : Shared).heap.objs.size = s.heap.objs.size + 1 from Heap.size_push ..]
  rw [List.forIn_nil]
  exact wpAny_bind (wpAny_pure (wpAny_pure h))

/-- every name of the written scope, in the scope that runs -/
theorem lookup_relS {sc : Scope} : ∀ {names : List (Str × NameKind)} {x : Str} {k : NameKind},
    (names.map fun (n, k) => if (k == NameKind.free && sc.kind == .function && sc.names.lookup n == some .cell) then (n, NameKind.cell) else (n, k)).lookup x = some k →
    ∃ k', names.lookup x = some k' ∧ (k = k' ∨ (k' = .free ∧ k = .cell))
  | [], _, _, h => by simp at h
  | (n, k₀) :: r, x, k, h => by
    have ih := @lookup_relS sc r x k
    have h' : List.lookup x ((if (k₀ == NameKind.free && sc.kind == .function && sc.names.lookup n == some .cell) = true then (n, NameKind.cell) else (n, k₀)) :: (r.map _)) = some k := h
    cases hx : x == n with
    | true =>
      simp only [List.lookup_cons, hx]
      by_cases hc : (k₀ == NameKind.free && sc.kind == .function && sc.names.lookup n == some .cell) = true
      · rw [if_pos hc] at h'
        simp only [List.lookup_cons, hx] at h'
        cases h'
        simp only [Bool.and_eq_true, beq_iff_eq] at hc
        exact ⟨k₀, rfl, .inr ⟨hc.1.1, rfl⟩⟩
      · rw [if_neg hc] at h'
        simp only [List.lookup_cons, hx] at h'
        cases h'
        exact ⟨_, rfl, .inl rfl⟩
    | false =>
      simp only [List.lookup_cons, hx]
      by_cases hc : (k₀ == NameKind.free && sc.kind == .function && sc.names.lookup n == some .cell) = true
      · rw [if_pos hc] at h'
        simp only [List.lookup_cons, hx] at h'
        exact ih h'
      · rw [if_neg hc] at h'
        simp only [List.lookup_cons, hx] at h'
        exact ih h'
/-- the names of a comprehension's block: its own (with their places in N), or captured -/
structure BlkOk (N : List Str) (sc scope : Scope) (own : List (Str × Nat)) : Prop where
  kind : scope.kind = .function
  uniq : ∀ y ∈ scope.names, scope.names.lookup y.1 = some y.2
  ix : ∀ p ∈ own, N[p.2]? = some p.1
  free : ∀ y ∈ scope.names, y.2 = .free → sc.names.lookup y.1 = some .cell ∨ sc.names.lookup y.1 = some .free
  own : ∀ y ∈ scope.names, y.2 = .local ∨ y.2 = .cell → y.1 ∈ own.map (·.1) ∨ y.1 ∉ N
/-- the slots of the block's own names forgotten -/
def wipe (σ : St) : List Nat → St
  | [] => σ
  | v :: vs => (wipe σ vs).set v none
theorem wipe_length (σ : St) : ∀ vs : List Nat, (wipe σ vs).length = σ.length
  | [] => rfl
  | v :: vs => by unfold wipe; rw [List.length_set, wipe_length σ vs]
theorem wipe_some {σ : St} {i : Nat} {x : V} : ∀ {vs : List Nat}, (wipe σ vs)[i]? = some (some x) → σ[i]? = some (some x) ∧ i ∉ vs
  | [], h => ⟨h, by simp⟩
  | v :: vs, h => by
    unfold wipe at h
    by_cases hi : v = i
    · subst hi
      by_cases hv : v < (wipe σ vs).length
      · rw [List.getElem?_set_self hv] at h; cases h
      · rw [List.getElem?_eq_none (by simpa using hv)] at h; cases h
    · rw [List.getElem?_set_ne hi] at h
      obtain ⟨h1, h2⟩ := wipe_some h
      exact ⟨h1, by simp only [List.mem_cons, not_or]; exact ⟨fun e => hi e.symm, h2⟩⟩

/-- the context of a block that starts at s, its iterator's objects at fp -/
abbrev Cx.blk (X : Cx) (s : Shared) (H : Hp) (scope : Scope) (cenv : Env) (fp : List Addr) : Cx := { X with s_0 := s, H_0 := H, env := cenv, outer := X.stack, ex := fp, fn := fun x => scope.names.lookup x == some .cell, pn := [], xe := fun _ _ => False }
section
variable {X : Cx} {pins : List (Addr × Obj)} {σ : St} {H : Hp} {s : Shared}
theorem block_start {scope : Scope} {own : List (Str × Nat)} {fp : List Addr} (I : Inv X pins σ H s) (ok : BlkOk X.N X.env.scope scope own) (hN : X.N.Nodup) (hfp : ∀ b ∈ fp, FpOk X pins H b ∧ b < s.heap.objs.size) :
    Inv (X.blk s H scope (compEnvC scope (cellsFrom (s.heap.objs.size + 1) scope.names (cloFrom X.env.cells scope.names [])) s.heap.objs.size X.env) fp) [] (wipe σ (own.map (·.2))) H { s with heap := pushCells (s.heap.push { cls := .type "dict", data := .dict #[] }) scope.names } := by
  have hfree : ∀ y ∈ scope.names, y.2 = .free → ∃ c, X.env.cells.lookup y.1 = some c := fun y hy e => by
    rcases ok.free y hy e with k | k
    · exact I.ok.has _ (.inl k)
    · exact I.ok.has _ (.inr k)
  generalize hcenv : compEnvC scope (cellsFrom (s.heap.objs.size + 1) scope.names (cloFrom X.env.cells scope.names [])) s.heap.objs.size X.env = cenv
  have kp : ∀ b o, s.heap.get? b = some o → (pushCells (s.heap.push { cls := .type "dict", data := .dict #[] }) scope.names).get? b = some o := fun b o e => pushCells_keeps _ _ _ _ (Heap.get?_push_of_some _ e)
  have hL : cenv.locals = s.heap.objs.size := by rw [← hcenv]; rfl
  have hcl : cenv.cells = cellsFrom (s.heap.objs.size + 1) scope.names (cloFrom X.env.cells scope.names []) := by rw [← hcenv]; rfl
  have hsc : cenv.scope = relS scope X.env.scope := by rw [← hcenv]; rfl
  rw [← Heap.size_push s.heap { cls := .type "dict", data := .dict #[] }] at hcl
  have cm : ∀ {y c}, (y, c) ∈ cloFrom X.env.cells scope.names [] → X.env.cells.lookup y = some c ∧ c < s.heap.objs.size := fun {y c} hm => by
    rcases cloFrom_mem hm with hm | ⟨h1, rfl⟩
    · cases hm
    · obtain ⟨c, hc⟩ := hfree _ h1 rfl
      rw [hc]
      obtain ⟨w, z⟩ := I.cell _ _ hc
      exact ⟨rfl, z.lt⟩
  have mem : ∀ {y c}, cenv.cells.lookup y = some c → (X.env.cells.lookup y = some c ∧ c < s.heap.objs.size) ∨ (s.heap.objs.size + 1 ≤ c ∧ CellAt (pushCells (s.heap.push { cls := .type "dict", data := .dict #[] }) scope.names) c none) := fun {y c} e => by
    rw [hcl] at e
    rcases cells_mem (PySem.mem_of_lookup e) with hm | ⟨_, h2, h3⟩
    · exact .inl (cm hm)
    · rw [Heap.size_push] at h2; exact .inr ⟨h2, h3⟩
  have look : ∀ {y}, scope.names.lookup y = some .free → ∃ c, cenv.cells.lookup y = some c ∧ X.env.cells.lookup y = some c := fun {y} hl => by
    have hy : (y, NameKind.free) ∈ scope.names := PySem.mem_of_lookup hl
    obtain ⟨c', e'⟩ := mem_lookup (cells_acc (names := scope.names) (n := (s.heap.push { cls := .type "dict", data := .dict #[] }).objs.size) (cloFrom_has (cells := X.env.cells) (acc := []) hy))
    rw [← hcl] at e'
    refine ⟨c', e', ?_⟩
    rw [hcl] at e'
    rcases cells_mem (PySem.mem_of_lookup e') with hm | ⟨h1, _, _⟩
    · exact (cm hm).1
    · have := ok.uniq _ h1
      rw [hl] at this; cases this
  have okB : (X.blk s H scope cenv fp).Ok := by
    refine ⟨I.ok.mod, by show cenv.scope.kind = _; rw [hsc]; exact ok.kind, by show cenv.globals = _; rw [← hcenv]; exact I.ok.glob, by show cenv.builtins = _; rw [← hcenv]; exact I.ok.blt, by show s.heap.objs.size ≤ cenv.locals; rw [hL]; exact Nat.le_refl _,
      fun y z c e1 e2 => ?_, fun y hy => ?_, fun y c z e => ?_, I.ok.hd, I.ok.frames, .inl rfl, fun b hb => ⟨?_, fun y c e z => ?_⟩, I.bs, Nat.le_trans I.ok.bsz I.sz, fun b o e hb => ?_, fun b hb z => ?_, I.stack, I.stkFree, I.ok.tb.un I.base⟩
    · have e1 : cenv.cells.lookup y = some c := e1
      have e2 : cenv.cells.lookup z = some c := e2
      rw [hcl] at e1 e2
      refine cells_inj (fun p hp => ?_) (fun y z c a b => I.ok.inj y z c (cm a).1 (cm b).1) (PySem.mem_of_lookup e1) (PySem.mem_of_lookup e2)
      rw [Heap.size_push]
      exact Nat.lt_succ_of_lt (cm (y := p.1) (c := p.2) hp).2
    · show ∃ c, cenv.cells.lookup y = some c
      have key : ∀ k, cenv.kindOf y = some k → (k = .cell ∨ k = .free) → ∃ c, cenv.cells.lookup y = some c := fun k hk hk' => by
        unfold Env.kindOf at hk
        rw [hsc] at hk
        obtain ⟨k', e, r⟩ := lookup_relS hk
        have : k' = .cell ∨ k' = .free := by
          rcases r with rfl | ⟨rfl, _⟩
          · exact hk'
          · exact .inr rfl
        rcases this with rfl | rfl
        · obtain ⟨c, hm⟩ := cells_has (n := (s.heap.push { cls := .type "dict", data := .dict #[] }).objs.size) (acc := cloFrom X.env.cells scope.names []) (PySem.mem_of_lookup e)
          obtain ⟨c', e'⟩ := mem_lookup hm
          exact ⟨c', by rw [hcl]; exact e'⟩
        · obtain ⟨c, h1, _⟩ := look e
          exact ⟨c, h1⟩
      rcases hy with hy | hy
      · exact key _ hy (.inl rfl)
      · exact key _ hy (.inr rfl)
    · have z : (scope.names.lookup y == some NameKind.cell) = true := z
      have z : scope.names.lookup y = some .cell := by simpa using z
      have e : cenv.cells.lookup y = some c := e
      rw [hcl] at e
      rcases cells_mem (PySem.mem_of_lookup e) with hm | ⟨_, h2, _⟩
      · rcases cloFrom_mem hm with hm | ⟨h1, _⟩
        · cases hm
        · have q := ok.uniq _ h1
          rw [z] at q; cases q
      · rw [Heap.size_push] at h2
        exact Nat.le_of_succ_le h2
    · show b ≠ cenv.locals
      rw [hL]; exact Nat.ne_of_lt (hfp b hb).2
    · have e : cenv.cells.lookup y = some c := e
      rcases mem e with ⟨h1, _⟩ | ⟨h1, _⟩
      · exact (hfp b hb).1.2.2.2.2.1 y c h1 z
      · have h2 : s.heap.objs.size + 1 ≤ b := by rw [← z]; exact h1
        exact absurd (Nat.lt_of_lt_of_le (hfp b hb).2 (Nat.le_of_succ_le h2)) (Nat.lt_irrefl _)
    · rcases (hfp b hb).1.2.2.2.1 with z | z
      · exact I.ok.noex b o e z
      · exact absurd (Nat.lt_of_lt_of_le (Heap.lt_size e) (Nat.le_trans I.ok.bsz z)) (Nat.lt_irrefl _)
    · rcases List.mem_cons.mp (I.stkSub b z) with z | z
      · exact (hfp b hb).1.2.1 z
      · exact (hfp b hb).1.2.2.1 z
  refine ⟨okB, rfl, I.bare, Un.kept kp, ⟨fun _ => none, ?_, fun i y av e1 e2 e3 => ?_⟩, fun y c e => ?_, ?_, fun y c e => ?_, fun p hp => ?_, I.hok.kept kp, by rw [wipe_length]; exact I.len⟩
  · show Heap.Ns _ cenv.locals _
    rw [hL]
    exact Heap.Ns.keeps (Heap.Ns.new ..) fun b o e => pushCells_keeps _ _ _ _ e
  · obtain ⟨e2, hne⟩ := wipe_some e2
    have hfr : scope.names.lookup y = some .free ∧ (cenv.kindOf y = some .cell ∨ cenv.kindOf y = some .free) := by
      have key : ∀ k, cenv.scope.names.lookup y = some k → k = .local ∨ k = .cell ∨ k = .free → scope.names.lookup y = some .free ∧ (cenv.kindOf y = some .cell ∨ cenv.kindOf y = some .free) := fun k hk hk' => by
        have hk0 := hk
        rw [hsc] at hk
        obtain ⟨k', e, r⟩ := lookup_relS hk
        have no : ¬ (k' = .local ∨ k' = .cell) := fun hh => by
          rcases ok.own _ (PySem.mem_of_lookup e) hh with e' | e'
          · obtain ⟨p, hp, hpy⟩ := List.mem_map.mp e'
            have e3 := ok.ix p hp
            have : p.1 = y := hpy
            rw [this] at e3
            exact hne (List.mem_map.mpr ⟨p, hp, nodup_ix hN e3 e1⟩)
          · exact e' (List.mem_of_getElem? e1)
        rcases r with rfl | ⟨rfl, rfl⟩
        · rcases hk' with rfl | rfl | rfl
          · exact absurd (.inl rfl) no
          · exact absurd (.inr rfl) no
          · exact ⟨e, .inr hk0⟩
        · exact ⟨e, .inl hk0⟩
      have e3 : Vis cenv.scope y := e3
      rcases e3 with e3 | e3 | e3
      · exact key _ e3 (.inl rfl)
      · exact key _ e3 (.inr (.inl rfl))
      · exact key _ e3 (.inr (.inr rfl))
    obtain ⟨m, hn, hl⟩ := I.loc
    have hvis : Vis X.env.scope y := (ok.free _ (PySem.mem_of_lookup hfr.1) rfl).elim (fun k => .inr (.inl k)) (fun k => .inr (.inr k))
    obtain ⟨w, r, q⟩ := hl i y av e1 e2 hvis
    refine ⟨w, r, .inr ⟨hfr.2, ?_⟩⟩
    obtain ⟨c, h1, h2⟩ := look hfr.1
    rcases q with ⟨k, _⟩ | ⟨_, c', e', z⟩
    · have k : X.env.scope.names.lookup y = some .local := k
      rcases ok.free _ (PySem.mem_of_lookup hfr.1) rfl with k' | k' <;> rw [show X.env.scope.names.lookup y = _ from k'] at k <;> cases k
    · rw [h2] at e'; cases e'
      exact ⟨c, h1, z.keeps kp⟩
  · have e : cenv.cells.lookup y = some c := e
    rcases mem e with ⟨h1, _⟩ | ⟨_, z⟩
    · obtain ⟨w, z⟩ := I.cell y c h1
      exact ⟨w, z.keeps kp⟩
    · exact ⟨_, z⟩
  · show H cenv.locals = none
    rw [hL]; exact I.hok.fresh (Nat.le_refl _)
  · have e : cenv.cells.lookup y = some c := e
    rcases mem e with ⟨h1, _⟩ | ⟨h1, _⟩
    · exact I.freeC y c h1
    · exact I.hok.fresh (Nat.le_of_succ_le h1)
  · exact absurd (show p ∈ ([] : List (Addr × Obj)) ++ [] from hp) (by simp)

/-- an item appended to a tracked list -/
theorem app_ok {E : Value → Shared → Prop} {D : Addr} {xs : List V} {y : V} {v : Value} {Q : Value → Shared → Prop} (I : Inv X pins σ H s) (hD : H D = some (.lst xs)) (hz : xs.length < sizeLine) (r : RelV y v)
    (h : ∀ s', Inv X pins σ (upd H D (.lst (xs ++ [y]))) s' → Q .none s') : wpAny (model X.prog X.w) X.A (call (.builtin "list.append") [.ref D, v]) Q E s := by
  obtain ⟨hz', its, n, ri, e⟩ := I.hok D _ hD
  have hl := ri.length
  refine append_at (hsz := by rw [List.size_toArray]; omega) e fun h' sb ho' => ?_
  refine h { s with heap := h' } (I.write (t' := s.toks) (by rw [hD]; trivial) (.inl rfl) (fun b u hb q => (sb.2 b hb).trans q) ⟨_, ho'⟩ ⟨by rw [List.length_append]; exact hz, its ++ [v], n + 1, ri.append (.cons r .nil), ?_⟩)
  rw [ho']
  simp

/-- a clause's tests -/
def PTs (X : Cx) (ifs : List Expr) (t : TT) : Prop :=
  ∀ (pins : List (Addr × Obj)) (s : Shared) (σ : St) (H : Hp) (Q : Bool → Hp → Prop), Inv X pins σ H s → t σ H Q →
    wpAny (model X.prog X.w) X.A (forIn ifs true fun c r => if r = true then do let ok ← isTrue c X.env (eval c X.env); pure (ForInStep.yield ok) else pure (ForInStep.yield r)) (TP X pins σ Q) X.xe s
def tYes : TT := fun _ H Q => Q true H
theorem pts_nil : PTs X [] tYes := fun _ _ _ H _ I h => wpAny_tests_nil ⟨H, I, h⟩
end

theorem thnF {α : Type} {t : Sem α} {Q Q' : α → Shared → Prop} {M : Model} {A : Around} {E : Value → Shared → Prop} {s : Shared} (h : wpAny M A t Q (fun _ _ => False) s) (hQ : ∀ a s, Q a s → Q' a s) : wpAny M A t Q' E s := wpAny_mono h hQ fun _ _ z => False.elim z

/-- the loop of a list comprehension's block, the target of any form (codeAny_compLoop_tests asks a target that no tuple goes to; statement and proof follow it, PyProof/CompMap.lean:41-61, with the step letOwnedTupleGo kept) -/
theorem compLoop_any {prog : Program} {w : World} {A : Around} {R : Result → Shared → Prop} {s : Shared} {elt target iter : Expr} {ifs : List Expr} {scope : Scope} {pos : Pos} {it acc : Value} {env : Env} (I : Nat → Shared → Prop)
    (turn : ∀ n s, I n s → wpAny (model prog w) A (pyNext it) (fun r s₁ => match r with
      | none => R (.ok .next) s₁
      | some v => wpAny (model prog w) A (letOwnedTupleGo target it v) (fun _ s₁' => wpAny (model prog w) A (assign target env v) (fun _ s₂ =>
          wpAny (model prog w) A (forIn ifs true fun c r => if r = true then do let ok ← isTrue c env (eval c env); pure (ForInStep.yield ok) else pure (ForInStep.yield r)) (fun ok s₃ =>
            if ok = true then wpAny (model prog w) A (eval elt env) (fun x s₄ =>
              wpAny (model prog w) A (call (.builtin "list.append") [acc, x]) (fun _ s₅ => ∃ m, m < n ∧ I m s₅) (notedBy (model prog w) A env fun e s' => R (.error e) s') s₄) (notedBy (model prog w) A env fun e s' => R (.error e) s') s₃
            else ∃ m, m < n ∧ I m s₃) (notedBy (model prog w) A env fun e s' => R (.error e) s') s₂) (notedBy (model prog w) A env fun e s' => R (.error e) s') s₁') (notedBy (model prog w) A env fun e s' => R (.error e) s') s₁) (notedBy (model prog w) A env fun e s' => R (.error e) s') s)
    (n : Nat) (h : I n s) :
    codeAny (model prog w) A (.compLoop (.ListComp elt [⟨target, iter, ifs, 0⟩] scope pos) 0 it acc env) R s := by
  refine codeAny_loop rfl I (fun n s hI => ?_) n h
  show wpAny _ A ((compTurn (.ListComp elt [⟨target, iter, ifs, 0⟩] scope pos) 0 it acc env).onRaise (fun x => do noteFrame x env; theTreesLotGoes x)) _ _ s
  refine wpAny_noted ?_
  rw [compTurn_list]
  refine wpAny_bind (wpAny_standAt (wpAny_bind (wpAny_mono (turn n s hI) (fun r s₁ h₁ => ?_) fun _ _ h' => h')))
  cases r with
  | none => exact wpAny_pure h₁
  | some v =>
    refine wpAny_bind (wpAny_mono h₁ (fun _ s₁' h₁' => ?_) fun _ _ h' => h')
    refine wpAny_bind (wpAny_mono h₁' (fun _ s₂ h₂ => wpAny_bind (wpAny_mono h₂ (fun ok s₃ h₃ => ?_) fun _ _ h' => h')) fun _ _ h' => h')
    cases ok with
    | false => exact wpAny_pure ⟨rfl, h₃⟩
    | true =>
      exact wpAny_bind (wpAny_bind (wpAny_mono h₃ (fun x s₄ h₄ => wpAny_bind (wpAny_mono h₄ (fun _ s₅ h₅ => wpAny_pure (wpAny_pure ⟨rfl, h₅⟩)) fun _ _ h' => h')) fun _ _ h' => h'))

section
variable {X : Cx}
/-- [elt for target in iter if ..]: D the new list; W by the turn and a measure, Nx what a turn is to reach -/
def tLc (wi : TI) (g : TG) (tt : TT) (te : TE) (vs : List Nat) : TE := fun σ H Q => wi σ H fun J H1 => ∀ D, H1 D = none → ∃ W : Nat → Nat → Hp → Prop, (∃ m, W 0 m (upd H1 D (.lst []))) ∧ ∀ i m H, W i m H →
  (J.stop i H ∧ Q (.ref D) H) ∨ (J.go i H ∧ ∃ Nx : Hp → Prop, (∀ H', Nx H' → ∃ m', m' < m ∧ W (i + 1) m' H') ∧ ∀ x H', J.yld i H x H' → g x (wipe σ vs) H' fun σ2 H2 => wipe σ2 vs = wipe σ vs ∧ tt σ2 H2 fun b H3 =>
    if b = true then te σ2 H3 fun y H4 => ∃ acc, H4 D = some (.lst acc) ∧ acc.length < sizeLine ∧ Nx (upd H4 D (.lst (acc ++ [y]))) else Nx H3)
theorem lc_core {pins : List (Addr × Obj)} {s : Shared} {σ : St} {H : Hp} {Q : VK} {elt tg iter : Expr} {ifs : List Expr} {scope : Scope} {own : List (Str × Nat)} {pos pos' : Pos} {wi : TI} {g : TG} {tt : TT} {te : TE} {use : Option (Value → Sem Unit)} {Qf : Value → Shared → Prop}
    (hc : X.calm = true) (hN : X.N.Nodup) (I : Inv X pins σ H s) (hi : PI X tg iter wi) (ok : BlkOk X.N X.env.scope scope own)
    (hg : ∀ (s : Shared) (H : Hp) (C : Addr) (cl : List (Str × Addr)) (fp : List Addr), PG (X.blk s H scope (compEnvC scope cl C X.env) fp) tg g) (ht : ∀ (s : Shared) (H : Hp) (C : Addr) (cl : List (Str × Addr)) (fp : List Addr), PTs (X.blk s H scope (compEnvC scope cl C X.env) fp) ifs tt)
    (he : ∀ (s : Shared) (H : Hp) (C : Addr) (cl : List (Str × Addr)) (fp : List Addr), PE (X.blk s H scope (compEnvC scope cl C X.env) fp) elt te) (hs : ∀ x, foldedSetIterable iter X.env x = pure x)
    (h : tLc wi g tt te (own.map (·.2)) σ H Q)
    (hRR : ∀ D C s' m H', Inv X pins σ H' s' → Q (.ref D) H' → s'.heap.Ns C m → FpOk X pins H' C → compPost (model X.prog X.w) X.A X.xe use Qf (.ref D) C (.ok .next) s') :
    wpAny (model X.prog X.w) X.A (comprehension (.ListComp elt [⟨tg, iter, ifs, 0⟩] scope pos) scope X.env pos' (newList []) false (eval iter X.env) use) Qf X.xe s := by
  have hfree : ∀ y ∈ scope.names, y.2 = .free → ∃ c, X.env.cells.lookup y.1 = some c := fun y hy e => by
    rcases ok.free y hy e with k | k
    · exact I.ok.has _ (.inl k)
    · exact I.ok.has _ (.inr k)
  refine wpAny_comprehension_free (use := use) rfl hs (closure_ok hfree) ok.kind (fun y hy e => by rw [ok.uniq y hy, e])
    (thn (hi pins s σ H _ I h) fun xv s1 hx => thn hx fun itv s2 h2 => ?_)
  obtain ⟨it, fp, tn, J, H2, e, I2, T, st2, f2, q⟩ := h2
  subst e
  refine wpAny_newObj_type (newEnv_comp ?_) (by show 0 ≤ sizeLine; decide)
  generalize hD : s2.heap.objs.size = D
  have hDn : H2 D = none := I2.hok.fresh (Nat.le_of_eq hD)
  obtain ⟨W, ⟨m0, w0⟩, turn⟩ := q D hDn
  -- the new list
  generalize hs3 : ({ s2 with heap := s2.heap.push { cls := .type "list", data := .seq ([] : List Value).toArray } } : Shared) = s3
  have I3 : Inv X pins σ (upd H2 D (.lst [])) s3 := by
    rw [← hs3]
    refine I2.laid (t' := s2.toks) (fun b o e => Heap.get?_push_of_some _ e) (Nat.le_of_eq hD) ⟨Nat.zero_le _, [], 0, .nil, ?_⟩
    rw [← hD]
    exact Heap.get?_push_size _ rfl
  have h3 : s3.heap = s2.heap.push { cls := .type "list", data := .seq ([] : List Value).toArray } := by rw [← hs3]
  have sz : ∀ b ∈ fp, b < s2.heap.objs.size := fun b hb => by
    obtain ⟨o, e, _⟩ := T.obj _ _ st2 b hb
    exact Heap.lt_size e
  have f3 : ∀ b ∈ fp, FpOk X pins (upd H2 D (.lst [])) b ∧ b < s3.heap.objs.size := fun b hb => by
    have hlt := sz b hb
    refine ⟨⟨?_, (f2 b hb).2⟩, by rw [h3, Heap.size_push]; exact Nat.lt_succ_of_lt hlt⟩
    rw [upd_ne (by rw [← hD]; exact Nat.ne_of_lt hlt)]
    exact (f2 b hb).1
  have st3 : tn 0 s3.heap := T.keep _ _ _ st2 fun b _ o e => by rw [h3]; exact Heap.get?_push_of_some _ e
  have I4 := block_start I3 ok hN f3
  have pg := hg s3 (upd H2 D (.lst [])) s3.heap.objs.size (cellsFrom (s3.heap.objs.size + 1) scope.names (cloFrom X.env.cells scope.names [])) fp
  have pt := ht s3 (upd H2 D (.lst [])) s3.heap.objs.size (cellsFrom (s3.heap.objs.size + 1) scope.names (cloFrom X.env.cells scope.names [])) fp
  have pe := he s3 (upd H2 D (.lst [])) s3.heap.objs.size (cellsFrom (s3.heap.objs.size + 1) scope.names (cloFrom X.env.cells scope.names [])) fp
  show codeAny _ _ (.compStart (.ListComp elt [⟨tg, iter, ifs, 0⟩] scope pos) 0 (.ref it) (.ref D) (compEnvC scope (cellsFrom (s3.heap.objs.size + 1) scope.names (cloFrom X.env.cells scope.names [])) s3.heap.objs.size X.env)) (compPost (model X.prog X.w) X.A X.xe use Qf (.ref D) s3.heap.objs.size) { s3 with heap := pushCells (s3.heap.push { cls := .type "dict", data := .dict #[] }) scope.names }
  have nfp : ∀ b ∈ fp, (upd H2 D (.lst [])) b = none := fun b hb => (f3 b hb).1.1
  generalize hce : compEnvC scope (cellsFrom (s3.heap.objs.size + 1) scope.names (cloFrom X.env.cells scope.names [])) s3.heap.objs.size X.env = ce at I4 pg pt pe ⊢
  have cL : ce.locals = s3.heap.objs.size := by subst hce; rfl
  generalize hH3 : upd H2 D (.lst []) = H3 at I3 I4 pg pt pe w0 nfp f3
  generalize hs4 : ({ s3 with heap := pushCells (s3.heap.push { cls := .type "dict", data := .dict #[] }) scope.names } : Shared) = s4 at I4 ⊢
  have st4 : tn 0 s4.heap := T.keep _ _ _ st3 fun b _ o e => by rw [← hs4]; exact pushCells_keeps _ _ _ _ (Heap.get?_push_of_some _ e)
  have stat : ∀ {σ' : St} {H' : Hp} {s' : Shared}, Inv (X.blk s3 H3 scope ce fp) [] σ' H' s' → (∀ b ∈ fp, H' b = none) → ∀ b ∈ fp, FpOk (X.blk s3 H3 scope ce fp) [] H' b := fun {σ' H' s'} I' hn b hb =>
    ⟨hn b hb, (I'.ok.exf b hb).1, I'.ok.exfs b hb, .inl hb, fun x c e => (I'.ok.exf b hb).2 x c e, fun p hp => absurd (show p ∈ ([] : List (Addr × Obj)) ++ [] from hp) (by simp)⟩
  have loop : codeAny (model X.prog X.w) X.A (.compLoop (.ListComp elt [⟨tg, iter, ifs, 0⟩] scope pos) 0 (.ref it) (.ref D) ce) (compPost (model X.prog X.w) X.A X.xe use Qf (.ref D) s3.heap.objs.size) s4 := by
    refine compLoop_any (fun n s' => ∃ i H', Inv (X.blk s3 H3 scope ce fp) [] (wipe σ (own.map (·.2))) H' s' ∧ tn i s'.heap ∧ (∀ b ∈ fp, H' b = none) ∧ W i n H') ?_ m0 ⟨0, H3, I4, st4, nfp, w0⟩
    rintro n s5 ⟨i, H5, I5, st5, n5, w5⟩
    rcases turn i n H5 w5 with ⟨stop, qq⟩ | ⟨go, Nx, hNx, step⟩
    · have td := T.done (X.blk s3 H3 scope ce fp) rfl rfl rfl hc i [] s5 _ H5 (fun _ _ => False) I5 (stat I5 n5) st5 stop
      refine thnF td fun r s6 ⟨hr, I6⟩ => ?_
      subst hr
      -- back in the def's context
      have I7 : Inv X pins σ H5 s6 := I3.call' (ch := fp) I6.os I6.base I6.hok I6.bare fun b hb => ⟨(f3 b hb).1.2.2.2.1, (f3 b hb).1.2.1, (f3 b hb).1.2.2.2.2.1, (f3 b hb).1.2.2.2.2.2⟩
      have nC : H5 s3.heap.objs.size = none := by
        have z : H5 ce.locals = none := I6.free
        rw [cL] at z
        exact z
      obtain ⟨m, hn, _⟩ := I6.loc
      have hn : s6.heap.Ns ce.locals m := hn
      rw [cL] at hn
      exact hRR D s3.heap.objs.size s6 m H5 I7 qq hn (I3.fpOk (Nat.le_refl _) nC)
    · have ti := T.item (X.blk s3 H3 scope ce fp) rfl rfl rfl hc i [] s5 _ H5 (fun _ _ => False) I5 (stat I5 n5) st5 go
      refine thnF ti fun r s6 ⟨u, hr, h6⟩ => ?_
      subst hr
      refine thnF h6 fun _ s7 ⟨x, H7, I7, r7, y7, st7, n7⟩ => ?_
      have I7' := I7.pinned (stat I7 n7) (T.obj _ _ st7)
      refine thnF (pg _ s7 _ H7 x u _ I7' r7 (step x H7 y7)) fun _ s8 ⟨σ8, H8, I8, hw8, q8⟩ => ?_
      refine thnF (pt _ s8 σ8 H8 _ I8 q8) fun b s9 ⟨H9, I9, q9⟩ => ?_
      -- the turn's end
      have fin : ∀ {s' : Shared} {H' : Hp}, Inv (X.blk s3 H3 scope ce fp) ([] ++ pinsAt fp s7.heap) σ8 H' s' → Nx H' → ∃ m, m < n ∧ ∃ i H', Inv (X.blk s3 H3 scope ce fp) [] (wipe σ (own.map (·.2))) H' s' ∧ tn i s'.heap ∧ (∀ b ∈ fp, H' b = none) ∧ W i m H' := fun {s' H'} I' nx => by
        obtain ⟨m', hm, w'⟩ := hNx H' nx
        have pin' : ∀ b ∈ fp, ∀ o, s7.heap.get? b = some o → s'.heap.get? b = some o ∧ H' b = none := fun b hb o e =>
          let z := I'.pin (b, o) (List.mem_append_right _ (List.mem_append_right _ (mem_pinsAt hb e)))
          ⟨z.1, z.2.1⟩
        have hl : (wipe σ (own.map (·.2))).length = σ8.length := by rw [← hw8, wipe_length]
        refine ⟨m', hm, i + 1, H', (I'.unpinned (pins := [])).weak hl (fun j v e => ?_), T.keep _ _ _ st7 fun b hb o e => (pin' b hb o e).1, fun b hb => ?_, w'⟩
        · rw [← hw8] at e
          exact (wipe_some e).1
        · obtain ⟨o, e, _⟩ := T.obj _ _ st7 b hb
          exact (pin' b hb o e).2
      cases b with
      | false =>
        simp only [Bool.false_eq_true, if_false] at q9 ⊢
        exact fin I9 q9
      | true =>
        simp only [if_true] at q9 ⊢
        refine thnF (pe _ s9 σ8 H9 _ I9 q9) fun z s10 ⟨yv, H10, I10, r10, acc, hD10, hz10, nx⟩ => ?_
        exact app_ok (X := X.blk s3 H3 scope ce fp) I10 hD10 hz10 r10 fun s11 I11 => fin I11 nx
  exact codeAny_compStart_list loop (T.self X.A 0 _ _ _ st4 loop)
/-- as a value -/
theorem pe_lc {elt tg iter : Expr} {ifs : List Expr} {scope : Scope} {own : List (Str × Nat)} {pos : Pos} {wi : TI} {g : TG} {tt : TT} {te : TE} (hc : X.calm = true) (hN : X.N.Nodup) (hi : PI X tg iter wi) (ok : BlkOk X.N X.env.scope scope own)
    (hg : ∀ (s : Shared) (H : Hp) (C : Addr) (cl : List (Str × Addr)) (fp : List Addr), PG (X.blk s H scope (compEnvC scope cl C X.env) fp) tg g) (ht : ∀ (s : Shared) (H : Hp) (C : Addr) (cl : List (Str × Addr)) (fp : List Addr), PTs (X.blk s H scope (compEnvC scope cl C X.env) fp) ifs tt)
    (he : ∀ (s : Shared) (H : Hp) (C : Addr) (cl : List (Str × Addr)) (fp : List Addr), PE (X.blk s H scope (compEnvC scope cl C X.env) fp) elt te) (hs : ∀ x, foldedSetIterable iter X.env x = pure x := by intro _; rfl) :
    PE X (.ListComp elt [⟨tg, iter, ifs, 0⟩] scope pos) (tLc wi g tt te (own.map (·.2))) := by
  intro pins s σ H Q I h
  rw [eval_ListComp]
  refine lc_core hc hN I hi ok hg ht he hs h fun D C s' m H' I' q hn f => ⟨m, hn, fun h'' sb => ?_⟩
  obtain ⟨f0, f1, f2, f3, f4, f5⟩ := f
  exact ⟨.ref D, H', I'.turned (t' := s'.toks) (fun b o hb e => (sb.2 b hb).trans e) f0 f1 f3 f4 f5, rfl, q⟩
/-- name = [..] on one line, the name a local -/
theorem ps_setLc {i : Nat} {y : Str} {py : Pos} {elt tg iter : Expr} {ifs : List Expr} {scope : Scope} {own : List (Str × Nat)} {pos spos : Pos} {wi : TI} {g : TG} {tt : TT} {te : TE} (hc : X.calm = true) (hN : X.N.Nodup) (hy : X.N[i]? = some y) (hyl : X.env.scope.names.lookup y = some .local)
    (hsw : swapsWith (.ListComp elt [⟨tg, iter, ifs, 0⟩] scope pos) (some (.Name y py)) spos.line X.env = pure true) (hi : PI X tg iter wi) (ok : BlkOk X.N X.env.scope scope own)
    (hg : ∀ (s : Shared) (H : Hp) (C : Addr) (cl : List (Str × Addr)) (fp : List Addr), PG (X.blk s H scope (compEnvC scope cl C X.env) fp) tg g) (ht : ∀ (s : Shared) (H : Hp) (C : Addr) (cl : List (Str × Addr)) (fp : List Addr), PTs (X.blk s H scope (compEnvC scope cl C X.env) fp) ifs tt)
    (he : ∀ (s : Shared) (H : Hp) (C : Addr) (cl : List (Str × Addr)) (fp : List Addr), PE (X.blk s H scope (compEnvC scope cl C X.env) fp) elt te) (hs : ∀ x, foldedSetIterable iter X.env x = pure x := by intro _; rfl) :
    PS X (.Assign [.Name y py] (.ListComp elt [⟨tg, iter, ifs, 0⟩] scope pos) spos) (tAsg (tLc wi g tt te (own.map (·.2))) (gName i)) := by
  intro pins s σ H D I h
  rw [exec_Assign_Name_used _ _ _ _ hsw]
  refine wpAny_bind (wpAny_standAt (wpAny_bind ?_))
  show wpAny _ X.A (do let _ ← comprehension (.ListComp elt [⟨tg, iter, ifs, 0⟩] scope pos) scope X.env (firstIterPos [⟨tg, iter, ifs, 0⟩] pos) (newList []) false (eval iter X.env) (some (assign (.Name y py) X.env))) _ _ s
  have h : tLc wi g tt te (own.map (·.2)) σ H (fun x H1 => gName i x σ H1 D.nx) := h
  refine wpAny_bind (thn (lc_core (Qf := fun _ s' => SP X pins D .next s') hc hN I hi ok hg ht he hs h fun L C s' m H' I' q hn f => ?_) fun _ s' hq => wpAny_pure (wpAny_pure hq))
  show wpAny _ _ (assign (.Name y py) X.env (.ref L)) _ _ _
  refine wpAny_assign_Name (store_ok2 (v := V.ref L) I' hN hy (.inl hyl) rfl (fun s2 I2 ⟨a, sb, ha⟩ => ?_) (.inr hyl))
  obtain ⟨f0, f1, f2, f3, f4, f5⟩ := f
  have haC : C ≠ a := by
    rcases ha with z | z
    · rw [z]; exact f1
    · exact fun e => f4 y a z e.symm
  refine ⟨m, hn.sameBut sb haC, fun h3 sb3 => ?_⟩
  exact ⟨_, H', I2.turned (t' := s2.toks) (fun b o hb e => (sb3.2 b hb).trans e) f0 f1 f3 f4 f5, q⟩
theorem sw_true {elt : Expr} {gs : List Comprehension} {scope : Scope} {pos py : Pos} {y : Str} {l : Nat} {env : Env} (hk : env.scope.kind = .function) (hy : env.scope.names.lookup y = some .local) (hl : (py.line == pos.line) = true)
    (ha : (scope.names.any fun (n, k) => n == y && (k == .local || k == .cell)) = false) : swapsWith (.ListComp elt gs scope pos) (some (.Name y py)) l env = pure true := by
  have ky : env.kindOf y = some .local := hy
  have hb : env.blockKind = .function := by unfold Env.blockKind; rw [hk]; rfl
  unfold swapsWith
  simp only [hb, ky, ha, Expr.pos, hl]
  rfl
end

/-- over a list that the block leaves as it is -/
theorem lc_list {K : PySem.W.Frag} {a : Addr} {xs : List V} {g : TG} {tt : TT} {te : TE} {vs : List Nat} {σ : St} {H1 : Hp} {D : Addr} {Qd : Hp → Prop} (Pv : Nat → Hp → Prop) (h0 : Pv 0 (upd H1 D (.lst []))) (hl : ∀ i H, i ≤ xs.length → Pv i H → SqL K H a xs)
    (hs : ∀ i x H, xs[i]? = some x → Pv i H → g x (wipe σ vs) H fun σ2 H2 => wipe σ2 vs = wipe σ vs ∧ tt σ2 H2 fun b H3 =>
      if b = true then te σ2 H3 fun y H4 => ∃ acc, H4 D = some (.lst acc) ∧ acc.length < sizeLine ∧ Pv (i + 1) (upd H4 D (.lst (acc ++ [y]))) else Pv (i + 1) H3) (hd : ∀ H, Pv xs.length H → Qd H) :
    ∃ W : Nat → Nat → Hp → Prop, (∃ m, W 0 m (upd H1 D (.lst []))) ∧ ∀ i m H, W i m H →
      ((Itl K a).stop i H ∧ Qd H) ∨ ((Itl K a).go i H ∧ ∃ Nx : Hp → Prop, (∀ H', Nx H' → ∃ m', m' < m ∧ W (i + 1) m' H') ∧ ∀ x H', (Itl K a).yld i H x H' → g x (wipe σ vs) H' fun σ2 H2 => wipe σ2 vs = wipe σ vs ∧ tt σ2 H2 fun b H3 =>
        if b = true then te σ2 H3 fun y H4 => ∃ acc, H4 D = some (.lst acc) ∧ acc.length < sizeLine ∧ Nx (upd H4 D (.lst (acc ++ [y]))) else Nx H3) := by
  refine ⟨fun i m H => m = xs.length - i ∧ i ≤ xs.length ∧ Pv i H, ⟨xs.length, by simp, Nat.zero_le _, h0⟩, ?_⟩
  rintro i m H ⟨rfl, hi, p⟩
  have q := hl i H hi p
  by_cases hlt : i < xs.length
  · refine .inr ⟨⟨xs, xs[i], q, by simp [hlt]⟩, Pv (i + 1), fun H' p' => ⟨xs.length - (i + 1), by omega, rfl, hlt, p'⟩, fun x H' y => ?_⟩
    obtain ⟨e, y⟩ := y
    subst e
    exact hs i x _ (y xs q) p
  · have e : i = xs.length := by omega
    subst e
    exact .inl ⟨⟨xs, q, Nat.le_refl _⟩, hd H p⟩
def blkC (N : List Str) (sc scope : Scope) (own : List (Str × Nat)) : Bool :=
  (match scope.kind with | .function => true | _ => false) && (scope.names.all fun y => decide (scope.names.lookup y.1 = some y.2)) && (own.all fun p => decide (N[p.2]? = some p.1)) &&
    (scope.names.all fun y => match y.2 with
      | .free => (match sc.names.lookup y.1 with | some .cell => true | some .free => true | _ => false)
      | .local => decide (y.1 ∈ own.map (·.1)) || decide (y.1 ∉ N)
      | .cell => decide (y.1 ∈ own.map (·.1)) || decide (y.1 ∉ N)
      | _ => true)
theorem blkOk_by {N : List Str} {sc scope : Scope} {own : List (Str × Nat)} (h : blkC N sc scope own = true) : BlkOk N sc scope own := by
  unfold blkC at h
  simp only [Bool.and_eq_true, List.all_eq_true, decide_eq_true_eq] at h
  obtain ⟨⟨⟨h1, h2⟩, h3⟩, h4⟩ := h
  refine ⟨?_, h2, h3, fun y hy e => ?_, fun y hy e => ?_⟩
  · split at h1
    · assumption
    · cases h1
  · have q := h4 y hy
    simp only [e] at q
    split at q <;> first | exact .inl (by assumption) | exact .inr (by assumption) | cases q
  · have q := h4 y hy
    rcases e with e | e <;> (simp only [e, Bool.or_eq_true, decide_eq_true_eq] at q; exact q)
end L2

namespace L2
open PySem PySem.Spec PyProof.Rows

section
variable {prog : Program} {w : World} {A : Around} {R : Result → Shared → Prop} {s : Shared} {elt t0 i0 t1 i1 : Expr} {ifs0 ifs1 : List Expr} {scope : Scope} {pos : Pos} {it acc : Value} {env : Env}
end

section
variable {X : Cx}
end
end L2

namespace L2
open PySem PySem.Spec PyProof.Rows

section
variable {κ : Type} [DecidableEq κ]
def valV (kvs : List (κ × V)) (k : κ) : Option V := (kvs.find? fun kv => decide (kv.1 = k)).map (·.2)
/-- in its place, or at the end -/
def putK (kvs : List (κ × V)) (k : κ) (v : V) : List (κ × V) :=
  if (kvs.any fun kv => decide (kv.1 = k)) = true then kvs.map (fun kv => if kv.1 = k then (kv.1, v) else kv) else kvs ++ [(k, v)]
def dropK (kvs : List (κ × V)) (k : κ) : List (κ × V) := kvs.filter fun kv => decide (kv.1 ≠ k)

theorem valV_pos {p : κ × V} {r : List (κ × V)} {k : κ} (e : p.1 = k) : valV (p :: r) k = some p.2 := by simp [valV, List.find?_cons, e]
theorem valV_neg {p : κ × V} {r : List (κ × V)} {k : κ} (e : ¬ p.1 = k) : valV (p :: r) k = valV r k := by simp [valV, List.find?_cons, e]
theorem valV_any (k : κ) : ∀ kvs : List (κ × V), (kvs.any fun kv => decide (kv.1 = k)) = (valV kvs k).isSome
  | [] => rfl
  | p :: r => by
    rw [List.any_cons]
    by_cases e : p.1 = k
    · simp only [valV_pos e, decide_eq_true e, Bool.true_or, Option.isSome_some]
    · rw [valV_neg e, decide_eq_false e, Bool.false_or]; exact valV_any k r
theorem RelO.isSome_eq {o : Option V} {u : Option Value} (r : RelO o u) : o.isSome = u.isSome := by
  cases o with
  | none => cases u with
    | none => rfl
    | some _ => exact (show False from r).elim
  | some _ => cases u with
    | none => exact (show False from r).elim
    | some _ => rfl
theorem RelO.getD {o : Option V} {u : Option Value} {d : V} {d' : Value} (r : RelO o u) (rd : RelV d d') : RelV (o.getD d) (u.getD d') := by
  cases o with
  | none => cases u with
    | none => exact rd
    | some _ => exact (show False from r).elim
  | some _ => cases u with
    | none => exact (show False from r).elim
    | some _ => exact r

/-- raw tables of the same keys -/
theorem KV.val {kvs : List (κ × V)} {vs : List (κ × Value)} (r : KV kvs vs) (k : κ) : RelO (valV kvs k) (valueAt vs k) := by
  unfold KV at r
  induction r with
  | nil => exact True.intro
  | @cons p q ps qs h t ih =>
    obtain ⟨h1, h2⟩ := h
    by_cases e : p.1 = k
    · have e' : q.1 = k := h1.symm.trans e
      have b : valueAt (q :: qs) k = some q.2 := by simp [valueAt, List.find?_cons, e']
      rw [valV_pos e, b]; exact h2
    · have e' : ¬ q.1 = k := fun z => e (h1.trans z)
      have b : valueAt (q :: qs) k = valueAt qs k := by simp [valueAt, List.find?_cons, e']
      rw [valV_neg e, b]; exact ih
theorem KV.any {kvs : List (κ × V)} {vs : List (κ × Value)} (r : KV kvs vs) (k : κ) : (kvs.any fun kv => decide (kv.1 = k)) = vs.any fun kv => decide (kv.1 = k) := by
  unfold KV at r
  induction r with
  | nil => rfl
  | cons h t ih => rw [List.any_cons, List.any_cons, ih, h.1]
theorem KV.repl {kvs : List (κ × V)} {vs : List (κ × Value)} (r : KV kvs vs) (k : κ) {y : V} {u : Value} (ry : RelV y u) :
    KV (kvs.map fun kv => if kv.1 = k then (kv.1, y) else kv) (vs.map fun kv => if kv.1 = k then (kv.1, u) else kv) := by
  unfold KV at r ⊢
  induction r with
  | nil => exact .nil
  | @cons p q ps qs h t ih =>
    rw [List.map_cons, List.map_cons]
    refine .cons ?_ ih
    obtain ⟨h1, h2⟩ := h
    by_cases e : p.1 = k
    · rw [if_pos e, if_pos (h1.symm.trans e)]; exact ⟨h1, ry⟩
    · rw [if_neg e, if_neg (fun z => e (h1.trans z))]; exact ⟨h1, h2⟩
theorem KV.put {kvs : List (κ × V)} {vs : List (κ × Value)} (r : KV kvs vs) (k : κ) {y : V} {u : Value} (ry : RelV y u) : KV (putK kvs k y) (stored vs k u) := by
  unfold putK stored
  rw [r.any k]
  by_cases e : (vs.any fun kv => decide (kv.1 = k)) = true
  · rw [if_pos e, if_pos e]; exact r.repl k ry
  · rw [if_neg e, if_neg e]; exact Paired.snoc r ⟨rfl, ry⟩
theorem KV.drop {kvs : List (κ × V)} {vs : List (κ × Value)} (r : KV kvs vs) (k : κ) : KV (dropK kvs k) (without vs k) := by
  unfold KV at r ⊢
  unfold dropK without
  induction r with
  | nil => exact .nil
  | @cons p q ps qs h t ih =>
    obtain ⟨h1, h2⟩ := h
    rw [List.filter_cons, List.filter_cons]
    by_cases e : p.1 = k
    · have a : ¬ decide (p.1 ≠ k) = true := by simp [e]
      have b : ¬ decide (q.1 ≠ k) = true := by simp [h1.symm.trans e]
      rw [if_neg a, if_neg b]; exact ih
    · have e' : ¬ q.1 = k := fun z => e (h1.trans z)
      have a : decide (p.1 ≠ k) = true := by simp [e]
      have b : decide (q.1 ≠ k) = true := by simp [e']
      rw [if_pos a, if_pos b]; exact .cons ⟨h1, h2⟩ ih
theorem KV.keys {kvs : List (κ × V)} {vs : List (κ × Value)} (r : KV kvs vs) : kvs.map (·.1) = vs.map (·.1) := by
  unfold KV at r
  induction r with
  | nil => rfl
  | cons h t ih => rw [List.map_cons, List.map_cons, ih, h.1]
theorem KV.length {kvs : List (κ × V)} {vs : List (κ × Value)} (r : KV kvs vs) : kvs.length = vs.length := Paired.length r
end


/-- raw entries of a dict with tuple keys -/
abbrev KT (H : Hp) : List (List Key × V) → List (List Key × Addr × Value) → Prop := Paired fun p q => p.1 = q.1 ∧ H q.2.1 = some (.tup (p.1.map kV)) ∧ RelV p.2 q.2.2
theorem KT.val {H : Hp} {kvs : List (List Key × V)} {xs : List (List Key × Addr × Value)} (r : KT H kvs xs) (k : List Key) : RelO (valV kvs k) ((atKey xs k).map (·.2)) := by
  induction r with
  | nil => exact True.intro
  | @cons p q ps qs h t ih =>
    obtain ⟨h1, _, h2⟩ := h
    by_cases e : p.1 = k
    · have e' : q.1 = k := h1.symm.trans e
      have b : atKey (q :: qs) k = some q.2 := by simp [atKey, List.find?_cons, e']
      rw [valV_pos e, b]; exact h2
    · have e' : ¬ q.1 = k := fun z => e (h1.trans z)
      have b : atKey (q :: qs) k = atKey qs k := by simp [atKey, List.find?_cons, e']
      rw [valV_neg e, b]; exact ih
theorem KT.repl {H : Hp} {kvs : List (List Key × V)} {xs : List (List Key × Addr × Value)} (r : KT H kvs xs) (k : List Key) {y : V} {u : Value} (ry : RelV y u) :
    KT H (kvs.map fun kv => if kv.1 = k then (kv.1, y) else kv) (xs.map (putAt k u)) := by
  induction r with
  | nil => exact .nil
  | @cons p q ps qs h t ih =>
    rw [List.map_cons, List.map_cons]
    refine .cons ?_ ih
    obtain ⟨h1, h2, h3⟩ := h
    unfold putAt
    by_cases e : p.1 = k
    · rw [if_pos e, if_pos (h1.symm.trans e)]; exact ⟨h1, h2, ry⟩
    · rw [if_neg e, if_neg (fun z => e (h1.trans z))]; exact ⟨h1, h2, h3⟩
theorem KT.put {H : Hp} {kvs : List (List Key × V)} {xs : List (List Key × Addr × Value)} (r : KT H kvs xs) (k : List Key) {b : Addr} {y : V} {u : Value} (hb : H b = some (.tup (k.map kV))) (ry : RelV y u) :
    KT H (putK kvs k y) (storedH xs k b u) := by
  have e : (kvs.any fun kv => decide (kv.1 = k)) = (atKey xs k).isSome := by
    rw [valV_any, (r.val k).isSome_eq, Option.isSome_map]
  unfold putK storedH
  rw [e]
  by_cases q : (atKey xs k).isSome = true
  · rw [if_pos q, if_pos q]; exact r.repl k ry
  · rw [if_neg q, if_neg q]; exact Paired.snoc r ⟨rfl, hb, ry⟩
theorem KT.keeps {H H' : Hp} {kvs : List (List Key × V)} {xs : List (List Key × Addr × Value)} (r : KT H kvs xs) (ht : ∀ b ys, H b = some (.tup ys) → H' b = some (.tup ys)) : KT H' kvs xs :=
  Paired.mapP r fun _ _ z => ⟨z.1, ht _ _ z.2.1, z.2.2⟩

section
variable {P : Program} {w : World} {H : Hp} {h : Heap} {a : Addr}
end

/-- what the dict at a holds at the key y -/
def DGet (H : Hp) (a : Addr) (y : V) (r : Option V) : Prop :=
  (∃ kvs k, Rd H a (.dK kvs) ∧ y = kV k ∧ r = valV kvs k) ∨ ∃ kvs k b, Rd H a (.dT kvs) ∧ y = .ref b ∧ H b = some (.tup (k.map kV)) ∧ r = valV kvs k
/-- the heap behind a[y] = v -/
def DPut (H : Hp) (a : Addr) (y v : V) (H' : Hp) : Prop :=
  (∃ kvs k, H a = some (.dK kvs) ∧ y = kV k ∧ kvs.length < sizeLine ∧ H' = upd H a (.dK (putK kvs k v))) ∨
  ∃ kvs k b, H a = some (.dT kvs) ∧ y = .ref b ∧ H b = some (.tup (k.map kV)) ∧ kvs.length < sizeLine ∧ H' = upd H a (.dT (putK kvs k v))
theorem DGet.k {H : Hp} {a : Addr} {kvs : List (Key × V)} {k : Key} (e : H a = some (.dK kvs)) : DGet H a (kV k) (valV kvs k) := .inl ⟨kvs, k, .inl e, rfl, rfl⟩
theorem DGet.t {H : Hp} {a b : Addr} {kvs : List (List Key × V)} {k : List Key} (e : H a = some (.dT kvs)) (eb : H b = some (.tup (k.map kV))) : DGet H a (.ref b) (valV kvs k) := .inr ⟨kvs, k, b, .inl e, rfl, eb, rfl⟩
theorem DPut.k {H : Hp} {a : Addr} {kvs : List (Key × V)} {k : Key} {v : V} (e : H a = some (.dK kvs)) (hl : kvs.length < sizeLine) : DPut H a (kV k) v (upd H a (.dK (putK kvs k v))) := .inl ⟨kvs, k, e, rfl, hl, rfl⟩
theorem DPut.t {H : Hp} {a b : Addr} {kvs : List (List Key × V)} {k : List Key} {v : V} (e : H a = some (.dT kvs)) (eb : H b = some (.tup (k.map kV))) (hl : kvs.length < sizeLine) :
    DPut H a (.ref b) v (upd H a (.dT (putK kvs k v))) := .inr ⟨kvs, k, b, e, rfl, eb, hl, rfl⟩


section
variable {X : Cx} {pins : List (Addr × Obj)} {σ : St} {H : Hp} {s : Shared} {a : Addr} {y v : V} {u r : Value} {o : Option V} {A : Around} {E : Value → Shared → Prop}

end

section
variable {X : Cx} {pins : List (Addr × Obj)} {σ : St} {H : Hp} {s : Shared} {a : Addr} {kvs : List (Key × V)} {k : Key} {u : Value} {A : Around} {E : Value → Shared → Prop}
end


section
variable {X : Cx} {o i e value : Expr} {pos pos' tpos : Pos} {td ty tv : TE}
end


section
variable {X : Cx} {pos : Pos}
end

/-- a method call o.m(e) of a built-in, with one argument: what must be seen of the text -/
structure M1 (X : Cx) (o : Expr) (m : Str) (apos : Pos) (e : Expr) (cpos : Pos) : Prop where
  base : attributeBase o m X.env (eval o X.env) = eval o X.env
  few : ((backTo cpos (starEach [e] X.env)).all (fun x => !x.1) && (backToKw cpos (keywordEach [] X.env)).all (fun x => x.1.isSome)
    && decide (([e] : List Expr).length + ([] : List Keyword).length + (if ([] : List Keyword).isEmpty then 0 else 1) < 30)) = true
  line : (apos.endLine == cpos.line) = true
  trees : backTo cpos (starEach [e] X.env) = [(false, eval e X.env)]
structure M2 (X : Cx) (o : Expr) (m : Str) (apos : Pos) (e f : Expr) (cpos : Pos) : Prop where
  base : attributeBase o m X.env (eval o X.env) = eval o X.env
  few : ((backTo cpos (starEach [e, f] X.env)).all (fun x => !x.1) && (backToKw cpos (keywordEach [] X.env)).all (fun x => x.1.isSome)
    && decide (([e, f] : List Expr).length + ([] : List Keyword).length + (if ([] : List Keyword).isEmpty then 0 else 1) < 30)) = true
  line : (apos.endLine == cpos.line) = true
  trees : backTo cpos (starEach [e, f] X.env) = [(false, eval e X.env), (false, eval f X.env)]

section
variable {X : Cx} {pins : List (Addr × Obj)} {σ : St} {H : Hp} {s : Shared} {a : Addr} {y d : V} {u r : Value} {o : Option V} {A : Around} {E : Value → Shared → Prop}
end

section
variable {X : Cx} {o e f : Expr} {apos cpos : Pos} {td ty tx : TE}
end

section
variable {X : Cx} {pins : List (Addr × Obj)} {σ : St} {H : Hp} {s : Shared} {a : Addr} {kvs : List (Key × V)} {A : Around} {E : Value → Shared → Prop}
end


section
variable {X : Cx} {pins : List (Addr × Obj)} {σ : St} {H : Hp} {s : Shared} {a : Addr} {y : V} {u : Value} {A : Around} {E : Value → Shared → Prop}
end
end L2

namespace L2
open PySem PySem.Spec PyProof.Rows

section
variable {prog : Program} {w : World} {A : Around} {E : Value → Shared → Prop}
end

section
variable {X : Cx}
end
end L2

namespace L2
open PySem PySem.Spec PyProof.Rows

section
variable {X : Cx} {pins : List (Addr × Obj)} {σ : St} {H : Hp} {s : Shared} {h' : Heap}
/-- .. and one new object is laid -/
theorem Inv.turnedNew {t' : Nat} {ch : List Addr} {T : Addr} {ob : HO} (I : Inv X pins σ H s) (k : ∀ b o, b ∉ ch → s.heap.get? b = some o → h'.get? b = some o) (hf : ∀ b ∈ ch, FpOk X pins H b) (hT : s.heap.objs.size ≤ T)
    (new : ObjOk X.prog X.w (upd H T ob) h' T ob) : Inv X pins σ (upd H T ob) { s with heap := h', toks := t' } := by
  have hn : H T = none := I.hok.fresh hT
  have nit : ∀ b u, H b = some u → b ∉ ch := fun b u e z => by
    have q := (hf b z).1
    rw [q] at e; cases e
  refine I.step (g' := s.gens) (d' := s.drawn) (ch := ch) (fun b hb => ⟨(hf b hb).2.2.2.1, (hf b hb).2.1, (hf b hb).2.2.2.2.1, (hf b hb).2.2.2.2.2⟩) (fun b o _ _ hc e _ => k b o hc e) (fun b o _ _ hc e _ => ⟨o.slots, k b o hc e⟩)
    (fun b o _ e n => ?_) (fun b o hc e => ⟨o, k b o hc e⟩) (fun b xs e => ?_) (fun b o u e => ?_) (fun b ps e => ⟨#[], ?_⟩) (fun m hm => ?_) (fun b u e => ?_) I.bare
  · rw [upd_ne (Nat.ne_of_lt (Nat.lt_of_lt_of_le (Heap.lt_size e) hT))]; exact n
  · rw [upd_ne (ne_of_none e hn)]; exact e
  · rw [upd_ne (ne_of_none e hn)]; exact e
  · rw [upd_ne (ne_of_none e hn), e]; simp
  · obtain ⟨o, es, ep, ho, r⟩ := hm
    exact ⟨o, es, ep, k _ o (fun z => (hf _ z).2.1 rfl) ho, r⟩
  · by_cases hb : b = T
    · subst hb
      rw [upd_same] at e
      cases e
      exact new
    · rw [upd_ne hb] at e
      refine (I.hok b u e).stay (fun c v hc q => k c v ?_ q) (fun c q => by rw [upd_ne (ne_of_none q hn)]; exact q) fun c xs q => by rw [upd_ne (ne_of_none q hn)]; exact q
      rcases hc with z | z
      · rw [z]; exact nit b u e
      · exact nit c _ z

end
section
variable {X : Cx}
end

section
variable {X : Cx} {tg : Expr}
end
section
variable {X : Cx} {tg : Expr}
end

section
variable {prog : Program} {w : World} {A : Around} {E : Value → Shared → Prop} {s : Shared}
end

section
variable {X : Cx} {pins : List (Addr × Obj)} {σ : St} {H : Hp} {s : Shared} {d : Addr} {o : Obj}
end

section
variable {P : Program} {w : World} {K : PySem.W.Frag} {tg : Expr} {d : Addr} {o : Obj} {es : Array DictEntry} {ep : Nat}
end

section
variable {X : Cx} {tg e : Expr} {td : TE} {apos cpos : Pos}
end

/-- the list at a as it stands at each turn, each item in a new pair -/
def Ite (K : PySem.W.Frag) (a : Addr) : It :=
  ⟨fun i H => ∃ (xs : List V) (x : V), SqL K H a xs ∧ xs[i]? = some x, fun i H v H' => ∃ T x, v = .ref T ∧ H T = none ∧ H' = upd H T (.tup [.int (i : Nat), x]) ∧ ∀ xs, SqL K H a xs → xs[i]? = some x, fun i H => ∃ xs : List V, SqL K H a xs ∧ xs.length ≤ i⟩
theorem turn_enum {P : Program} {w : World} {K : PySem.W.Frag} {elts : List Expr} {kk : Nat} {tpos : Pos} (a e it : Addr) :
    Turn P w K (.Tuple elts kk tpos) (Ite K a) [e, it] e (fun i h => (∃ old, IsEnum h e it ((i : Nat) : Int) old) ∧ h.IsListIter it a i ∧ e ≠ it) where
  mem := by simp
  obj := fun i h st b hb => by
    obtain ⟨⟨old, he⟩, ⟨o, ho, hc, hd⟩, _⟩ := st
    have e' : b = e ∨ b = it := by simpa using hb
    rcases e' with z | z
    · rw [z]; exact ⟨_, he, fun v q => nomatch q⟩
    · rw [z]; exact ⟨o, ho, fun v q => by rw [hd] at q; cases q⟩
  keep := fun i h h' st k => let ⟨⟨old, he⟩, hi, hne⟩ := st; ⟨⟨old, k e (by simp) _ he⟩, hi.at fun o q => k it (by simp) o q, hne⟩
  item := by
    intro X hP hw hK hc i pins s σ H E I hf st hg
    subst hP hw hK
    obtain ⟨⟨old, he⟩, hit, hne⟩ := st
    obtain ⟨xs, x, hq, hx⟩ := hg
    obtain ⟨its, rv, p, hz⟩ := I.list hq
    obtain ⟨u, hu, ru⟩ := rv.get hx
    have hel : e < s.heap.objs.size := Heap.lt_size he
    have hil : it < s.heap.objs.size := by obtain ⟨_, q, _⟩ := hit; exact Heap.lt_size q
    refine wpAny_pyNext_enum_item he hit p.isList (x := u) (by simpa using hu) hne fun h' ho hit' hT hsz hk => ?_
    refine ⟨_, rfl, wpAny_letOwnedTupleGo_enum (s := { s with heap := h', toks := s.toks + 1 }) ho fun h'' he' sb => ?_⟩
    have hT2 : h''.get? s.heap.objs.size = some { cls := .type "tuple", data := .seq #[.int i s.toks, u] } := (sb.2 _ (Nat.ne_of_gt hel)).trans hT
    have new : ObjOk X.prog X.w (upd H s.heap.objs.size (.tup [.int (i : Nat), x])) h'' s.heap.objs.size (.tup [.int (i : Nat), x]) :=
      ⟨by show 2 ≤ sizeLine; decide, [.int i s.toks, u], .cons ⟨_, rfl⟩ (.cons ru .nil), ⟨_, hT2, rfl, _, rfl⟩⟩
    have I1 : Inv X pins σ (upd H s.heap.objs.size (.tup [.int (i : Nat), x])) { s with heap := h'', toks := s.toks + 1 } :=
      I.turnedNew (ch := [e, it]) (fun b ob hb q => (sb.2 b (fun z => hb (by simp [z]))).trans (hk b ob (fun z => hb (by simp [z])) (fun z => hb (by simp [z])) q)) hf (Nat.le_refl _) new
    refine ⟨.ref s.heap.objs.size, _, I1, rfl, ⟨_, x, rfl, I.hok.fresh (Nat.le_refl _), rfl, fun ys hy => by rw [I.list_inj hy hq]; exact hx⟩, ⟨⟨u, ?_⟩, hit'.at fun o q => (sb.2 it (Ne.symm hne)).trans q, hne⟩, fun b hb => ?_⟩
    · have e1 : ((i + 1 : Nat) : Int) = (i : Int) + 1 := by omega
      rw [e1]; exact he'
    · have hb' : b < s.heap.objs.size := by
        have e' : b = e ∨ b = it := by simpa using hb
        rcases e' with z | z
        · rw [z]; exact hel
        · rw [z]; exact hil
      rw [upd_ne (Nat.ne_of_lt hb')]
      exact (hf b hb).1
  done := by
    intro X hP hw hK hc i pins s σ H E I hf st hg
    subst hP hw hK
    obtain ⟨⟨old, he⟩, hit, hne⟩ := st
    obtain ⟨xs, hq, hx⟩ := hg
    obtain ⟨its, rv, p, hz⟩ := I.list hq
    obtain ⟨f0, f1, f2, f3, f4, f5⟩ := hf it (by simp)
    have hl := rv.length
    exact wpAny_pyNext_enum_end (I.ok.hd hc) he hit p.isList (by simp; omega) fun h' eb => ⟨rfl, I.turned (t' := s.toks) (fun b o hb q => eb b o hb q) f0 f1 f3 f4 f5⟩
  self := fun A i s Q E st h => let ⟨⟨_, he⟩, _⟩ := st; wpAny_pyIter_enum he h
def iEnum (K : PySem.W.Frag) (ta : TA) : TI := fun σ H R => ta σ H fun vs H1 => ∃ a xs, vs = [.ref a] ∧ SqL K H1 a xs ∧ R (Ite K a) H1
theorem pi_enum {X : Cx} {e : Expr} {ta : TA} {p pos tpos : Pos} {elts : List Expr} {kk : Nat} (hg : Gl X "enumerate") (hm : X.mg "enumerate" = none) (ha : PA X [e] ta) (hs : starEach [e] X.env = [(false, eval e X.env)] := by rfl) :
    PI X (.Tuple elts kk tpos) (.Call (.Name "enumerate" p) [e] [] pos) (iEnum X.K ta) := by
  intro pins s σ H R I h
  refine Call_ (ld_blt I hg hm boot_enumerate (PyProof.Rows.callWith_type1 (thn (ha pos pins s σ H _ I h) fun us s1 ⟨vs, H1, I1, r1, q1⟩ => ?_) hs rfl))
  obtain ⟨a, xs, ex, hq, q⟩ := q1
  subst ex
  cases r1 with
  | cons r rr =>
    cases rr
    cases r
    obtain ⟨its, rv, p', hz⟩ := I1.list hq
    refine call_enumerate_list p'.isList fun h' he hit hsz hk => wpAny_pyIter_enum he ?_
    have I2 : Inv X pins σ H1 { s1 with heap := h' } := I1.kept (t' := s1.toks) hk
    refine ⟨s1.heap.objs.size + 1, [s1.heap.objs.size + 1, s1.heap.objs.size], _, _, H1, rfl, I2, turn_enum a (s1.heap.objs.size + 1) s1.heap.objs.size, ⟨⟨.none, he⟩, hit, Nat.succ_ne_self _⟩, fun b hb => ?_, q⟩
    have e' : b = s1.heap.objs.size + 1 ∨ b = s1.heap.objs.size := by simpa using hb
    have hle : s1.heap.objs.size ≤ b := by
      rcases e' with z | z
      · rw [z]; exact Nat.le_add_right _ _
      · rw [z]; exact Nat.le_refl _
    exact I1.fpOk hle (I1.hok.fresh hle)
theorem boot_zip5 : bootBuiltins "zip" = some (.type "zip") := by decide +kernel
end L2

section 
namespace Bits
open PySem PyProof.Rows

end Bits
end 

section 
namespace TL
open PySem PySem.Builtin PySem.Builtin.Str PySem.StrLaws

abbrev tl (x : Str) : List Nat := x.cps.toList
/-- S stands at the head of l -/
def pre (S l : List Nat) : Bool := l.take S.length == S
/-- what stands before the first S, and behind it -/
def par (S : List Nat) : List Nat → List Nat → Option (List Nat × List Nat)
  | _, [] => none
  | acc, c :: r => if pre S (c :: r) = true then some (acc, (c :: r).drop S.length) else par S (acc ++ [c]) r

end TL
end 

namespace L2
open PySem PySem.Spec PyProof.Rows

section
variable {X : Cx} {pins : List (Addr × Obj)} {σ : St} {H : Hp} {s : Shared} {Q : VK}
end

section
variable {X : Cx}

end

section
variable {X : Cx} {o e : Expr} {to te : TE}
end
end L2

namespace L2
open PySem PySem.Spec PyProof.Rows

section
variable {X : Cx}
end

theorem IsPart.raw {v : Value} {o : Option Int} (p : IsPart v o) : ∃ l : Option (Int × Tok), v = partValue l ∧ l.map (·.1) = o := by
  cases p with
  | none => exact ⟨none, rfl, rfl⟩
  | int i t => exact ⟨some (i, t), rfl, rfl⟩

end L2

namespace Att
open PySem PySem.W PySem.Calls PyProof.Rows

theorem ints_of_wellAll {P : Params} {h : Heap} : ∀ (ns : List Int) (vs : List Value), WellAll P h vs (ns.map WData.int) → IntsAre vs ns := by
  intro ns
  induction ns with
  | nil =>
    intro vs w
    rw [List.map_nil] at w
    cases w
    exact .nil
  | cons n ns ih =>
    intro vs w
    rw [List.map_cons] at w
    cases w with
    | cons a b =>
      cases a
      exact .cons _ _ (ih _ b)

theorem script_of {l : OpenLaw} {n : Nat} (hn : l.most = some n) {P : Params} {h : Heap} {args : List WData} {vals : List Value}
    (hpre : l.row.toRowW.claim.pre args = true) (hwl : WellAll P h vals args) :
    ∃ a vs ns, vals = [Value.ref a] ∧ args = [WData.list (ns.map WData.int)] ∧ h.get? a = some { cls := .type "list", data := .seq vs.toArray } ∧ IntsAre vs ns ∧ ns.length ≤ n := by
  have hsh : WShape.hasAll [] args [.list .int] = true := (pre_splitW hpre).1
  have hc : l.pre.holds [] { args := args } = true := (pre_splitW hpre).2
  obtain ⟨d, r, rfl, h1, h2⟩ := hasAllW_cons hsh
  obtain rfl := hasAllW_nil h2
  obtain ⟨xs, rfl, h3⟩ := hasW_list h1
  obtain ⟨ns, rfl⟩ := items_int h3
  have hlen : ns.length ≤ n := by
    unfold OpenLaw.pre at hc
    have h4 : (WTm.not (.lt (.lit (.int (n : Int))) (.len (.arg 0)))).holds [] { args := [.list (ns.map .int)] } = true := by
      have h4 := (holds_andW hc).1
      rw [hn] at h4
      exact h4
    have h5 := condW_of h4 (w_not (w_lt w_lit (w_len_list (w_arg rfl))))
    rw [List.length_map] at h5
    refine Nat.le_of_not_lt fun q => ?_
    have q' : (n : Int) < ((ns.length : Nat) : Int) := by omega
    first
      | (rw [decide_eq_true q'] at h5; exact absurd h5 (by decide))
      | (simp at h5; omega)
  cases hwl with
  | cons w1 w2 =>
    cases w2
    cases w1 with
    | list ho hall => exact ⟨_, _, ns, rfl, rfl, ho, ints_of_wellAll ns _ hall, hlen⟩

theorem post_true (l : OpenLaw) (args : List WData) : l.row.toRowW.claim.post args (.bool true) args = true :=
  postW_of (r := l.row.toRowW) (X := (true == true))
    (show WShape.has [] (.bool true) .bool = true by first | rfl | decide | simp [WShape.has, WShape.arms, WShape.armsAll])
    (show (WTm.eq .res (.lit (.bool true))).value [] { args := args, res := some (.bool true), after := args } = some (.bool (true == true)) from w_eq_bool (w_res rfl) w_lit) rfl

/-- the same from a codeAny of the CALL (for a layer whose function contracts speak of calls) -/
theorem attach_call {l : OpenLaw} {n : Nat} {q : Program} {loose : List Str} {XP : (Str → Option Value) → Heap → Prop} {YP : World → Heap → Prop} {d : DefRec}
    (hn : l.most = some n) (hdf : d.params.defaults = [])
    (call : ∀ (w : World) (s₀ s₁ : Shared) (mg mb : Str → Option Value) (fa : Addr) (o : Obj) (pm cd doc : Value) (a : Addr) (vs : List Value) (ns : List Int),
      Ground q loose [] XP w s₀ mg mb s₁.heap → YP w s₁.heap →
      s₁.heap.get? fa = some o → o.data = .func (docDef d.name d.params d.body d.scope pm cd doc) → s₁.heap.CodeRec cd d.name → mg d.name = some (.ref fa) →
      s₁.heap.get? a = some { cls := .type "list", data := .seq vs.toArray } → IntsAre vs ns → ns.length ≤ n → s₁.gens = #[] →
      codeAny (model l.prog w) callerA (.call (.ref fa) ⟨[.ref a], []⟩) (fun r s' => r = .ok (.ret (.bool true)) ∧ OldK s₁.heap s'.heap ∧ s'.os = s₁.os ∧ AllBare s'.gens) s₁) :
    WalkO q loose XP YP l.row.toRowW d [] (fun f vs => PySem.call f vs) := by
  intro w s₀ s₁ mg mb G Y fa o pm cd doc dV kV ho hd hcd hD hmg hg args vals as hpre hlay hrd hwl hlo
  obtain rfl : dV = .none := Dflts.none hD hdf
  obtain rfl : kV = .none := Dflts.noKw hD
  obtain ⟨a, vs, ns, rfl, rfl, hobj, hints, hlen⟩ := script_of hn hpre hwl
  refine enter_call (codeAny_mono (call w s₀ s₁ mg mb fa o pm cd doc a vs ns G Y ho (fd_plain hd) hcd hmg hobj hints hlen hg) fun r s' hq => ?_)
  obtain ⟨rfl, h2, h3, h4⟩ := hq
  exact ⟨.inl ⟨.bool true, .bool true, [], rfl, fun _ => rfl, .bool true, post_true l _, fun _ => ⟨List.Pairwise.nil, fun _ hm => (nomatch hm)⟩⟩, h2, h3, h4⟩

section
variable {prog : Program} {w : World} {A : Around} {E : Value → Shared → Prop} {s : Shared} {K : Frag}

end
end Att

namespace L2
open PySem PySem.Spec PyProof.Rows

theorem vals_ints : ∀ {vs : List Value} {ns : List Int}, IntsAre vs ns → Vals (ns.map V.int) vs
  | _, _, .nil => .nil
  | _, _, .cons n t h => .cons ⟨t, rfl⟩ (vals_ints h)

/-- nothing is tracked but the script, known to the object (or it is an object of the module) -/
def Only (H : Hp) : Prop := ∀ b, H b = none ∨ (∃ o xs, H b = some (.frz o (.lst xs))) ∨ H b = some (.tbl #[])

/-- THE HEAD, with the tables of the top's defs tracked -/
theorem law_call {P : Program} {w : World} {K : PySem.W.Frag} {mg mb : Str → Option Value} {CX : CXT} {k : Nat} {fa a : Addr} {fd : FuncData} {x : Str} {sp : Sp} {s₁ : Shared} {vs : List Value} {ns : List Int}
    (KX : K.In s₁.heap) (hns : s₁.heap.Ns mainGlobals mg) (hb : s₁.heap.Ns builtinsNs mb) (hbb : ∀ x : Str, x ≠ "__name__" → mb x = bootBuiltins x) (hlim : s₁.heap.NoLimit) (hg : s₁.gens = #[])
    (ha : s₁.heap.get? a = some { cls := .type "list", data := .seq vs.toArray }) (hi : IntsAre vs ns) (hl : ns.length ≤ sizeLine) (hr : Room k callerA)
    (hbm : ∃ bm ob, BMod s₁.heap mainGlobals mg bm ob) (hT : ∀ Pt, TabOf P K mg Pt → K.lookup Pt = none ∧ ∃ c, s₁.heap.TableAt c Pt #[])
    (F : ∀ base : Heap, K.In base → base.Ns mainGlobals mg → FnOk P w K mg base CX k fa fd [x] sp) (hbind : ∀ (s : Shared) (u : Value), BindsTo s fd ⟨[u], []⟩ [(x, u)])
    (hsp : ∀ H : Hp, Only H → SqL K H a (ns.map V.int) → sp [.ref a] H (fun v _ => v = .bl true) fun _ _ _ => False)
    (hCX : ∀ H e s', CX [] H s₁ (fun _ _ _ => False) e s' → False) :
    codeAny (model P w) callerA (.call (.ref fa) ⟨[.ref a], []⟩) (fun r s' => r = .ok (.ret (.bool true)) ∧ OldK s₁.heap s'.heap ∧ s'.os = s₁.os ∧ AllBare s'.gens) s₁ := by
  have rv := vals_ints hi
  have lenV := hi.length
  have noTa : ¬ TabOf P K mg a := fun t => by
    obtain ⟨_, c, _, ht⟩ := hT a t
    rw [ha] at ht
    cases ht
  have core : ∀ H : Hp, Only H → SqL K H a (ns.map V.int) → HOk P w H s₁.heap → (∀ b, H b ≠ none → (b = a ∧ ∃ o xs, H b = some (.frz o (.lst xs))) ∨ (TabOf P K mg b ∧ H b = some (.tbl #[]))) → Tabs P K mg H → (H a ≠ none → K.lookup a = none) →
      codeAny (model P w) callerA (.call (.ref fa) ⟨[.ref a], []⟩) (fun r s' => r = .ok (.ret (.bool true)) ∧ OldK s₁.heap s'.heap ∧ s'.os = s₁.os ∧ AllBare s'.gens) s₁ := by
    intro H hO hS hok hA hTb hK
    have base_of : ∀ {b : Addr} {o : Obj}, s₁.heap.get? b = some o → H b = none → (hidT s₁.heap H).get? b = some o := fun e n => hidT_get e n
    have noA : ∀ {b : Addr} {o : Obj} {es : Array DictEntry} {ep : Nat}, s₁.heap.get? b = some o → o.data = .dict es ep → H b = none := fun {b o es ep} e d => by
      cases q : H b with
      | none => rfl
      | some u =>
        rcases hA b (by rw [q]; simp) with ⟨e', _⟩ | ⟨tb, _⟩
        · subst e'
          rw [ha] at e; cases e
          have d' : Data.seq vs.toArray _ = Data.dict es ep := d
          cases d'
        · obtain ⟨_, c, _, ht⟩ := hT b tb
          rw [ht] at e; cases e
          have d' : Data.fields _ = Data.dict es ep := d
          cases d'
    have nsK : ∀ {b : Addr} {m : Str → Option Value}, s₁.heap.Ns b m → (hidT s₁.heap H).Ns b m := fun {b m} ⟨o, es, ep, e, d, r⟩ => ⟨o, es, ep, base_of e (noA e d), d, r⟩
    have hKb : K.In (hidT s₁.heap H) := fun b o e => base_of (KX b o e) (by
      cases q : H b with
      | none => rfl
      | some u =>
        rcases hA b (by rw [q]; simp) with ⟨e', _⟩ | ⟨tb, _⟩
        · subst e'
          rw [hK (by rw [q]; simp)] at e; cases e
        · rw [(hT b tb).1] at e; cases e)
    have hM : Mod K mg (hidT s₁.heap H) := ⟨hKb, nsK hns, ⟨mb, nsK hb, hbb⟩, let ⟨mc, h1, h2⟩ := hlim; ⟨mc, nsK h1, h2⟩, by
      obtain ⟨bm, ob, M⟩ := hbm
      refine ⟨bm, ob, nsK M.ns, M.name, M.ne, base_of M.obj ?_, M.cls, M.dict, M.data⟩
      cases q : H bm with
      | none => rfl
      | some u =>
        have hob := M.obj
        have hda := M.data
        rcases hA bm (by rw [q]; simp) with ⟨e', _⟩ | ⟨tb, _⟩
        · rw [e', ha] at hob
          cases hob
          cases hda
        · obtain ⟨_, c, _, ht⟩ := hT bm tb
          rw [ht] at hob
          cases hob
          cases hda⟩
    have e0 : Env0 P w K mg (hidT s₁.heap H) callerA [] s₁ H := ⟨rfl, hM, fun b o e => of_hidT e, Nat.le_of_eq (hidT_size _ _), trivial, fun b hb => absurd (show b ∈ ([] : List Addr) from hb) (by simp), hok, .of_eq hg, hTb⟩
    refine codeAny_mono ((F _ hKb (nsK hns)).run callerA [] s₁ H ⟨[.ref a], []⟩ [.ref a] [.ref a] _ _ hr e0 (hbind s₁ (.ref a)) (.cons rfl .nil) (hsp H hO hS)) fun r s' h => ?_
    cases r with
    | error e => exact (hCX H e s' h).elim
    | ok fl =>
      cases fl with
      | next => exact False.elim h
      | brk => exact False.elim h
      | cont => exact False.elim h
      | ret u =>
        obtain ⟨v, H', os, bare, un, hok', r', q⟩ := h
        have q' : v = .bl true := q
        subst q'
        obtain rfl : u = Value.bool true := r'
        refine ⟨rfl, ⟨fun b o e => ?_, fun b o e => un.there b o e (by simp)⟩, os, bare⟩
        cases q : H b with
        | none => exact .inl (un.keep b o e q (by intro z; exact absurd (show b ∈ ([] : List Addr) from z) (by simp)) (by simp))
        | some u =>
          rcases hA b (by rw [q]; simp) with ⟨_, ob, xs, z⟩ | ⟨tb, z⟩
          · have z2 := un.frzs b ob _ z
            obtain ⟨e1, _⟩ := hok b _ z
            obtain ⟨e2, _⟩ := hok' b _ z2
            rw [e] at e1; cases e1
            exact .inl e2
          · obtain ⟨_, c, ht⟩ := hT b tb
            obtain ⟨more, z2⟩ := un.tbls b _ z
            have e2 : s'.heap.get? b = some { cls := .none, data := .fields (#[] ++ more) } := (show _ ∧ _ from hok' b _ z2).1
            have eo : o = { cls := .none, data := .fields #[] } := Option.some.inj (e.symm.trans ht.2)
            subst eo
            exact .inr (.inl ⟨ht.isCodeTable, rfl, #[], more, rfl, e2⟩)
  classical
  cases hk : K.lookup a with
  | some o =>
    -- the script is one of the module's own objects
    have e := KX a o hk
    rw [ha] at e
    cases e
    refine core (fun b => if TabOf P K mg b then some (.tbl #[]) else none) (fun b => ?_) (.inr ⟨_, vs.toArray, _, hk, rfl, rfl, rfl, by rw [List.size_toArray, lenV]; exact hl, by simpa using rv⟩) (fun b u z => ?_) (fun b z => ?_) (fun Pt t => ⟨_, if_pos t⟩) fun z => absurd (if_neg noTa) z
    · by_cases hb : TabOf P K mg b
      · exact .inr (.inr (if_pos hb))
      · exact .inl (if_neg hb)
    · by_cases hb : TabOf P K mg b
      · have z' := (if_pos hb).symm.trans z
        cases z'
        obtain ⟨_, c, ht⟩ := hT b hb
        exact ⟨ht.2, trivial⟩
      · have z' := (if_neg hb).symm.trans z
        cases z'
    · by_cases hb : TabOf P K mg b
      · exact .inr ⟨hb, if_pos hb⟩
      · exact absurd (if_neg hb) z
  | none =>
    refine core (fun b => if b = a then some (.frz { cls := .type "list", data := .seq vs.toArray } (.lst (ns.map V.int))) else if TabOf P K mg b then some (.tbl #[]) else none) (fun b => ?_) (.inl (.inr ⟨{ cls := .type "list", data := .seq vs.toArray }, if_pos rfl⟩)) (fun b u z => ?_) (fun b z => ?_)
      (fun Pt t => ⟨#[], by show (if Pt = a then _ else if TabOf P K mg Pt then _ else _) = _; rw [if_neg (show ¬ Pt = a from fun z => noTa (by rw [← z]; exact t)), if_pos t]⟩) fun _ => hk
    · by_cases hb : b = a
      · exact .inr (.inl ⟨_, _, if_pos hb⟩)
      · by_cases ht : TabOf P K mg b
        · exact .inr (.inr ((if_neg hb).trans (if_pos ht)))
        · exact .inl ((if_neg hb).trans (if_neg ht))
    · by_cases hb : b = a
      · have z' := (if_pos hb).symm.trans z
        cases z'
        subst hb
        exact ⟨ha, by rw [List.length_map]; exact hl, vs, _, rv, ha⟩
      · by_cases ht : TabOf P K mg b
        · have z' := ((if_neg hb).trans (if_pos ht)).symm.trans z
          cases z'
          obtain ⟨_, c, ht⟩ := hT b ht
          exact ⟨ht.2, trivial⟩
        · have z' := ((if_neg hb).trans (if_neg ht)).symm.trans z
          cases z'
    · by_cases hb : b = a
      · exact .inl ⟨hb, _, _, if_pos hb⟩
      · by_cases ht : TabOf P K mg b
        · exact .inr ⟨ht, (if_neg hb).trans (if_pos ht)⟩
        · exact absurd ((if_neg hb).trans (if_neg ht)) z
end L2

namespace L2
open PySem PySem.Spec PyProof.Rows

/-- the tables at the law's entry -/
theorem tabs_at {l q : Program} {loose : List Str} {R : PySem.W.WRecords} {XP : (Str → Option Value) → Heap → Prop} {w : World} {s₀ : Shared} {mg mb : Str → Option Value} {h : Heap} {K : PySem.W.Frag} (G : PySem.W.Ground q loose R XP w s₀ mg mb h)
    (KX : K.In h) (hq : recsOf l = recsOf q) (hcl : PySem.W.kb_classed K = true) : ∀ Pt, TabOf l K mg Pt → K.lookup Pt = none ∧ ∃ c, h.TableAt c Pt #[] := by
  rintro Pt ⟨d, hd, f, o, fd, c, oc, vs, h1, h2, h3, h4, h5, h6, h7⟩
  rw [hq] at hd
  obtain ⟨a', o', fd', c', P', t1, t2, t3, t4, t5, t6⟩ := G.T.tab d hd
  rw [h1] at t1
  cases t1
  have e1 := KX _ _ h2
  rw [t2] at e1
  cases e1
  rw [h3] at t3
  cases t3
  rw [h4] at t4
  cases t4
  obtain ⟨oq, vq, _, _, _, _, _, _, _, _, g1, g2, g3, _⟩ := t5
  have e2 := KX _ _ h5
  rw [g1] at e2
  cases e2
  rw [h6] at g2
  cases g2
  rw [h7] at g3
  cases g3
  refine ⟨?_, c, t6⟩
  cases hk : K.lookup Pt with
  | none => rfl
  | some op =>
    exfalso
    have e3 := KX _ _ hk
    have q := List.all_eq_true.mp hcl (Pt, op) (PySem.W.kb_mem hk)
    simp only [Bool.or_eq_true, decide_eq_true_eq, beq_iff_eq] at q
    have e4 := t6.2
    rw [e3] at e4
    cases e4
    rcases q with (q | q) | q
    · exact q rfl
    · obtain ⟨mc, ⟨ox, es, ep, n1, n2, _⟩, _⟩ := G.T.nodigits
      rw [← q, e3] at n1
      cases n1
      cases n2
    · obtain ⟨ox, es, ep, n1, n2, _⟩ := G.T.g
      rw [← q, e3] at n1
      cases n1
      cases n2
/-- the goal that k_head leaves, from the law's promise -/
theorem walk_of {l : PySem.W.OpenLaw} {n k : Nat} {q : Program} {loose : List Str} {XP : (Str → Option Value) → Heap → Prop} {YP : World → Heap → Prop} {d : DefRec} {K : Params → PySem.W.Frag} {CX : World → CXT} {sp : World → Sp} {x : Str}
    (hn : l.most = some n) (hn2 : n ≤ sizeLine) (hdf : d.params.defaults = []) (hr : Room k callerA)
    (hq : recsOf l.prog = recsOf q) (hcl : ∀ w : World, PySem.W.kb_classed (K w.params) = true)
    (hY : ∀ (w : World) (h : Heap), YP w h → (K w.params).In h)
    (F : ∀ (w : World) (mg : Str → Option Value) (fa : Addr) (h : Heap), (K w.params).In h → h.Ns mainGlobals mg → mg d.name = some (.ref fa) →
      ∃ fd : FuncData, (∀ (s : Shared) (u : Value), BindsTo s fd ⟨[u], []⟩ [(x, u)]) ∧
        ∀ base : Heap, (K w.params).In base → base.Ns mainGlobals mg → FnOk l.prog w (K w.params) mg base (CX w) k fa fd [x] (sp w))
    (hsp : ∀ (w : World) (H : Hp) (a : Addr) (ns : List Int), ns.length ≤ n → Only H → SqL (K w.params) H a (ns.map V.int) → sp w [.ref a] H (fun v _ => v = .bl true) fun _ _ _ => False)
    (hCX : ∀ (w : World) (H : Hp) (s : Shared) (e : Value) (s' : Shared), CX w [] H s (fun _ _ _ => False) e s' → False) :
    PySem.W.WalkO q loose XP YP l.row.toRowW d [] (fun f vs => PySem.call f vs) := by
  refine Att.attach_call hn hdf fun w s₀ s₁ mg mb fa o pm cd doc a vs ns G Y ho hd hcd hmg hobj hints hlen hg => ?_
  have KX := hY w _ Y
  obtain ⟨fd, hb, hF⟩ := F w mg fa _ KX G.T.g hmg
  exact law_call KX G.T.g G.T.b G.T.builtins G.T.nolimit hg hobj hints (Nat.le_trans hlen hn2) hr (PySem.W.bmod_of_top G.T) (tabs_at G KX hq (hcl w)) hF hb (fun H hO hS => hsp w H a ns hlen hO hS) fun H e s' => hCX w H s₁ e s'
end L2


namespace L2
open PySem PySem.Spec PyProof.Rows

/-- the j-th statement of a class's body -/
def inClass (s : Stmt) (j : Nat) : Stmt := match s with
  | .ClassDef _ _ _ body _ _ _ _ _ _ _ => body.getD j (.Pass ⟨0, 0, 0, 0⟩)
  | _ => .Pass ⟨0, 0, 0, 0⟩
def defArgs (s : Stmt) : Arguments := match s with
  | .FunctionDef _ a _ _ _ _ _ _ _ _ => a
  | _ => { posonlyargs := [], args := [], vararg := none, kwonlyargs := [], kw_defaults := [], kwarg := none, defaults := [] }
def defBody (s : Stmt) : List Stmt := match s with
  | .FunctionDef _ _ b _ _ _ _ _ _ _ => b
  | _ => []
def defScope (s : Stmt) : Scope := match s with
  | .FunctionDef _ _ _ _ _ _ sc _ _ _ => sc
  | _ => { kind := .function, names := [], isGenerator := false, isCoroutine := false }

abbrev CX0 : CXT := fun _ _ _ _ _ _ => False
abbrev E0 : XK := fun _ _ _ => False
theorem pass0 {X : Cx} : Passes CX0 X E0 := fun _ _ _ _ _ _ _ h => h.elim

structure Fun (K : PySem.W.Frag) (x qual : Str) (st : Stmt) (f : Addr) (fd : FuncData) : Prop where
  ex : ∃ (oc : Value) (od : Option Addr) (kV doc pm : Value) (an : Option Addr) (cdv ct : Value) (osl : Array (Option Value)),
    fd = PySem.W.fnOf x qual (defArgs st) (defBody st) (defScope st) .none kV doc pm an cdv ct ∧ K.lookup f = some ⟨oc, od, .func fd, osl⟩ ∧ PySem.W.codeIn K cdv qual = true
  kp : PySem.W.keepIn K (.ref f) = true
section
variable {P : Program} {w : World} {K : PySem.W.Frag} {mg : Str → Option Value} {base : Heap}
/-- THE RULE for a def: its body as a term of rules, and the reading of that term -/
theorem Fun.ok {x qual : Str} {st : Stmt} {f : Addr} {fd : FuncData} {N ps : List Str} {k : Nat} {sp : Sp} (F : Fun K x qual st f fd) (S : FnScope N ps (defScope st)) (len : ∀ vs H Q E, sp vs H Q E → vs.length = ps.length)
    (hbody : ∀ (cdv : Value) (A : Around) (outer : List Env) (s : Shared) (H : Hp) (vs : List V) (Q : VK) (E : XK), Room k (A.deeper (envOfC qual (defScope st) s.heap.objs.size f cdv)) → sp vs H Q E →
      ∃ t, PSs (cxOf CX0 P w K mg base N qual (defScope st) f cdv A outer s H E).nox (defBody st) t ∧ t { nx := fun _ H' => Q .non H', rt := Q } (start N vs) H) : FnOk P w K mg base CX0 (k + 1) f fd ps sp := by
  obtain ⟨oc, od, kV, doc, pm, an, cdv, ct, osl, rfl, lk, hcd⟩ := F.ex
  refine fn_of lk hcd S len fun A outer s H vs Q E hr hsp => ?_
  obtain ⟨t, h, q⟩ := hbody cdv A outer s H vs Q E hr hsp
  exact ⟨t, h.nox, q⟩
/-- how its arguments bind (no defaults): h is «fun _ _ _ _ _ _ us hl => match us, hl with | [_, _], _ => rfl», one _ a parameter -/
theorem Fun.binds {x qual : Str} {st : Stmt} {f : Addr} {fd : FuncData} {ps : List Str} (F : Fun K x qual st f fd)
    (h : ∀ (kV doc pm : Value) (an : Option Addr) (cdv ct : Value) (us : List Value), us.length = ps.length → bindArgs (PySem.W.fnOf x qual (defArgs st) (defBody st) (defScope st) .none kV doc pm an cdv ct) ⟨us, []⟩ = pure (ps.zip us)) : Binds K fd ps [] := by
  obtain ⟨oc, od, kV, doc, pm, an, cdv, ct, osl, rfl, lk, hcd⟩ := F.ex
  exact .all (h kV doc pm an cdv ct)
theorem fun_mk {x qual : Str} {st : Stmt} {f : Addr} {oc : Value} {od an : Option Addr} {osl : Array (Option Value)} {kV doc pm cdv ct : Value} (l : K.lookup f = some ⟨oc, od, .func (PySem.W.fnOf x qual (defArgs st) (defBody st) (defScope st) .none kV doc pm an cdv ct), osl⟩)
    (c : PySem.W.codeIn K cdv qual = true) (k : PySem.W.keepIn K (.ref f) = true) : Fun K x qual st f (PySem.W.fnOf x qual (defArgs st) (defBody st) (defScope st) .none kV doc pm an cdv ct) := ⟨⟨oc, od, kV, doc, pm, an, cdv, ct, osl, rfl, l, c⟩, k⟩
end
theorem small1000 {n : Nat} (h : n ≤ 1000) : n < sizeLine := Nat.lt_of_le_of_lt h (by decide)

section
variable {X : Cx}
theorem pv (i : Nat) {x : Str} {pos : Pos} (hN : X.N[i]? = some x := by rfl) (hv : Vis X.env.scope x := by first | exact Or.inl rfl | exact Or.inr (Or.inl rfl) | exact Or.inr (Or.inr rfl)) (hd : (x == ("__debug__" : Str)) = false := by decide)
    (hcd : (x == ("__classdict__" : Str)) = false := by decide) : PE X (.Name x pos) (tVar i) := pe_var hN hv hd hcd
end

theorem ite2 {c A B : Prop} [Decidable c] (h1 : c → A) (h2 : ¬ c → B) : if c then A else B := by
  by_cases h : c
  · rw [if_pos h]
    exact h1 h
  · rw [if_neg h]
    exact h2 h
/-- all that was tracked is as it was -/
def SamO (o : HO) (x : Option HO) : Prop := match o with | .tbl _ => ∃ qs, x = some (.tbl qs) | o => x = some o
theorem SamO.refl (o : HO) : SamO o (some o) := by cases o <;> first | rfl | exact ⟨_, rfl⟩
theorem SamO.of {o : HO} {x : Option HO} (h : x = some o) : SamO o x := by rw [h]; exact SamO.refl o
theorem SamO.some {o : HO} {x : Option HO} (h : SamO o x) : ∃ u, x = some u := by cases o <;> first | exact ⟨_, h⟩ | exact let ⟨_, e⟩ := h; ⟨_, e⟩
theorem SamO.ne {o : HO} {H : Hp} {c p : Addr} (h : SamO o (H c)) (f : H p = none) : c ≠ p := fun z => by
  obtain ⟨u, e⟩ := h.some
  rw [z, f] at e
  cases e
/-- all that was tracked is as it was (code tables may have grown) -/
def Same (H H' : Hp) : Prop := ∀ b o, H b = some o → SamO o (H' b)
theorem Same.ap {H H' : Hp} (s : Same H H') {c : Addr} {o : HO} (h : SamO o (H c)) : SamO o (H' c) := by
  cases o <;> first
    | exact s c _ h
    | (obtain ⟨qs, e⟩ := h; have z : ∃ r, H' c = Option.some (.tbl r) := s c (.tbl qs) e; exact z)
theorem Same.refl (H : Hp) : Same H H := fun _ _ h => SamO.of h
theorem Same.trans {H H1 H2 : Hp} (a : Same H H1) (b : Same H1 H2) : Same H H2 := fun c o h => b.ap (a c o h)
theorem Same.free {H H' : Hp} (e : Same H H') {l : Addr} (h : H' l = Option.none) : H l = Option.none := by
  cases q : H l with
  | none => rfl
  | some o =>
    obtain ⟨u, z⟩ := (e l o q).some
    rw [z] at h
    cases h
theorem Same.tb {H : Hp} {p : Addr} {ps qs : Array Value} (h : H p = Option.some (.tbl ps)) : Same H (upd H p (.tbl qs)) := fun b o e => by
  by_cases hb : b = p
  · subst hb
    rw [h] at e
    cases e
    exact ⟨qs, upd_same⟩
  · rw [upd_ne hb]
    exact SamO.of e
theorem Same.seq {K : PySem.W.Frag} {H H' : Hp} {a : Addr} {xs : List V} (e : Same H H') (h : SqL K H a xs) : SqL K H' a xs := by
  rcases h with (h | ⟨o, h⟩) | h
  · exact .inl (.inl (e _ _ h))
  · exact .inl (.inr ⟨o, e _ _ h⟩)
  · exact .inr h

section
variable {κ : Type} [DecidableEq κ]
end
theorem at_of {xs : List V} {z : Int} {j : Nat} {v : V} (e : z = (j : Int)) (h : xs[j]? = some v) : atI xs z = some v := by
  rw [e]
  exact atI_nat h
/-- a new instance and its __init__ leave all that was tracked as it was -/
theorem Same.made {H H1 : Hp} {x dx C : Addr} (nx : H x = Option.none) (nd : H dx = Option.none) (k : ∀ b o, (upd (upd H dx (.own x)) x (.ins C dx [])) b = some o → b ≠ x → H1 b = some o) : Same H H1 := fun b o e => SamO.of <|
  k b o (by rw [upd_ne (ne_of_none e nx), upd_ne (ne_of_none e nd)]; exact e) (ne_of_none e nx)
end L2

set_option Elab.async false
set_option linter.all false
set_option maxRecDepth 100000
set_option maxHeartbeats 4000000
namespace L2
open PySem PySem.Spec PyProof.Rows

section
variable {X : Cx}
def rSortedA (K : PySem.W.Frag) : List V → Hp → VK → Prop := fun vs H Q => ∃ (a : Addr) (ns : List Int), vs = [V.ref a] ∧ SqL K H a (ns.map V.int) ∧
  ∀ (ns' : List Int) (p : Addr), ns'.Perm ns → ns'.Pairwise (· ≤ ·) → H p = none → Q (.ref p) (upd H p (.lst (ns'.map V.int)))
theorem cr_sortedA : CallR X (.builtin "sorted") (rSortedA X.K) := by
  intro pins s σ H vs us Q I r h
  obtain ⟨a, ns, rfl, hs, q⟩ := h
  obtain ⟨its, rv, hl, hz⟩ := I.list hs
  rw [Vals.ref1 r]
  have hi := rv.ints
  have hz' : ns.length ≤ sizeLine := by simpa using hz
  refine PyProof.Rows.sorted_intsAny hl.isList hi (by rw [hi.length]; exact hz') fun out ns' h1 h2 h3 => ?_
  obtain ⟨ep, he'⟩ := PyProof.Rows.sortedAll_at s.heap its out
  have hlen : (ns'.map V.int).length ≤ sizeLine := by rw [List.length_map, h2.length_eq]; exact hz'
  exact ⟨.ref _, upd H (s.heap.objs.size + 1) (.lst (ns'.map V.int)), I.laid (t' := s.toks) (fun _ _ => PyProof.Rows.sortedAll_old) (Nat.le_succ _) ⟨hlen, out.toList, ep, vals_of_ints h1, he'⟩, rfl, q ns' _ h2 h3 (I.hok.fresh (Nat.le_succ _))⟩

def tRevL (K : PySem.W.Frag) (te : TE) : TE := fun σ H Q => te σ H fun x H1 => ∃ a xs, x = .ref a ∧ SqL K H1 a xs ∧ ∀ p, H1 p = none → Q (.ref p) (upd H1 p (.lst xs.reverse))
theorem pe_rev {e : Expr} {te : TE} {j : Nat} {p1 p2 p3 pos : Pos} (he : PE X e te) : PE X (.Subscript e (.Slice none none (some (.UnaryOp .USub (.Constant (.int 1) j p1) p3)) p2) pos) (tRevL X.K te) := by
  intro pins s σ H Q I h
  refine Subscript_ (thn (he pins s σ H _ I h) fun v s1 ⟨x, H1, I1, r1, q1⟩ => ?_)
  obtain ⟨a, xs, rfl, hx, q⟩ := q1
  cases r1
  refine wpAny_Slice ?_
  rw [evalPart_none]
  refine wpAny_pure (wpAny_pure ?_)
  refine thn (po_some (X := X) (pe_un un_neg pe_int) pins s1 σ H1 (fun o H' => o = some (-1) ∧ H' = H1) I1 ⟨1, rfl, -1, rfl, rfl, rfl⟩) fun u s2 ⟨o, H2, I2, pu, e, eH⟩ => ?_
  subst e
  have eH' : H2 = H1 := eH
  subst eH'
  have I4 : Inv X pins σ H2 { s2 with heap := s2.heap.push { cls := .type "slice", data := .fields #[.none, .none, u] } } := I2.kept (t' := s2.toks) fun b ob q => Heap.get?_push_of_some _ q
  obtain ⟨its, r, ht, hz⟩ := I4.list hx
  have hlen := r.length
  show wpAny (model X.prog X.w) X.A (subscriptTail e (.Slice none none (some (.UnaryOp .USub (.Constant (.int 1) j p1) p3)) p2) (.ref a) (.ref s2.heap.objs.size)) (EP X pins σ Q) X.xe { s2 with heap := s2.heap.push { cls := .type "slice", data := .fields #[.none, .none, u] } }
  refine tail_any (ops := [.ref a, .ref s2.heap.objs.size]) ht.isList.typeIs slot_list_getitem.lookup ?_ (by with_unfolding_all rfl)
  refine wpAny_getItem_list_slice ht.isList (Heap.IsSliceOf.new ..) .none .none pu (by simp) ?_ (by rw [List.size_toArray] <;> omega)
  rw [PySem.W.krv_pick]
  refine ⟨.ref (s2.heap.push { cls := .type "slice", data := .fields #[.none, .none, u] }).objs.size, _, I4.laid (t' := s2.toks) (o := .lst xs.reverse) (fun b ob q => Heap.get?_push_of_some _ q) (Nat.le_refl _) ?_, rfl, q _ (I4.hok.fresh (Nat.le_refl _))⟩
  refine ⟨by rw [List.length_reverse]; exact hz, its.reverse, 0, ?_, Heap.get?_push_size _ rfl⟩
  exact Vals.reverse r

theorem call_isinst : CallR X (.builtin "isinstance") (fun xs H Q => ∃ x c t b, xs = [x, .ty c] ∧ TyOf X.K H x t ∧ PySem.W.kitOne X.K t (.type c) = some b ∧ Q (.bl b) H) := by
  intro pins s σ H xs us Q I r h
  obtain ⟨x, c, t, b, rfl, ty, e, q⟩ := h
  cases r with
  | cons r rr =>
    cases rr with
    | cons r' rr =>
      cases rr
      cases r'
      exact isinst_ok I r ty e fun tk => ⟨.bl b, H, I.tok tk, rfl, q⟩

end
end L2

set_option Elab.async false
set_option linter.all false
set_option maxRecDepth 100000
set_option maxHeartbeats 4000000
namespace L2
open PySem PySem.Spec PyProof.Rows

def over (H N : Hp) : Hp := fun b => match N b with | some o => some o | none => H b
theorem over_new {H N : Hp} {b : Addr} {o : HO} (h : N b = some o) : over H N b = some o := by unfold over; rw [h]
theorem over_old {H N : Hp} {b : Addr} (h : N b = none) : over H N b = H b := by unfold over; rw [h]
section
variable {X : Cx} {pins : List (Addr × Obj)} {σ : St} {H N : Hp} {s : Shared} {h' : Heap} {t' : Nat}
theorem Inv.laidMany (I : Inv X pins σ H s) (k : ∀ b u, s.heap.get? b = some u → h'.get? b = some u) (hN : ∀ b o, N b = some o → s.heap.objs.size ≤ b)
    (new : ∀ b o, N b = some o → ObjOk X.prog X.w (over H N) h' b o) : Inv X pins σ (over H N) { s with heap := h', toks := t' } := by
  have lt : ∀ b u, H b = some u → b < s.heap.objs.size := fun b u e => by
    rcases Nat.lt_or_ge b s.heap.objs.size with z | z
    · exact z
    · rw [I.hok.fresh z] at e; cases e
  have no : ∀ b, b < s.heap.objs.size → N b = none := fun b hb => by
    cases q : N b with
    | none => rfl
    | some o => exact absurd (hN b o q) (by omega)
  have sm : ∀ b u, H b = some u → over H N b = some u := fun b u e => by rw [over_old (no b (lt b u e))]; exact e
  refine I.un ⟨fun b u q _ _ _ => k b u q, fun b u q _ _ _ => ⟨u.slots, k b u q⟩, fun b u q n _ => by rw [over_old (no b (Heap.lt_size q))]; exact n, fun b u q _ => ⟨u, k b u q⟩,
    fun b xs q => sm b _ q, fun b u xs q => sm b _ q, fun b ps q => ⟨#[], by rw [sm b _ q]; simp⟩⟩ fun b u e => ?_
  cases q : N b with
  | some o =>
    have e' : u = o := Option.some.inj (e.symm.trans (over_new q))
    subst e'
    exact new b u q
  | none =>
    rw [over_old q] at e
    exact (I.hok b u e).stay (fun c v _ r => k c v r) (fun c r => sm c _ r) fun c xs r => sm c _ r
end

abbrev EnO (h : Heap) (e it : Addr) (f0 : Value) (f1 : Bool) (i : Int) (old : Value) : Prop :=
  h.get? e = some { cls := .type "enumerate", dict := none, data := .fields #[f0, .bool f1, .ref it, rawInt i, .none, old], slots := #[] }
/-- the enumerate object at e: its tuple is free, or was handed out and still stands -/
def EnSt (h : Heap) (e it : Addr) (i : Int) : Prop := (∃ old, IsEnum h e it i old) ∨ ∃ (a : Addr) (o : Obj) (f1 : Bool) (old : Value), EnO h e it (rawInt a) f1 i old ∧ h.get? a = some o ∧ a ≠ e ∧ a ≠ it
section
variable {prog : Program} {w : World} {A : Around} {E : Value → Shared → Prop} {s : Shared}
theorem EnSt.obj {h : Heap} {e it : Addr} {i : Int} (x : EnSt h e it i) : ∃ o, h.get? e = some o ∧ o.cls = .type "enumerate" := by
  rcases x with ⟨old, x⟩ | ⟨a, o, f1, old, x, _⟩
  · exact ⟨_, x, rfl⟩
  · exact ⟨_, x, rfl⟩
end
end L2
namespace L2
open PySem PySem.Spec PyProof.Rows
section
variable {prog : Program} {w : World} {A : Around} {E : Value → Shared → Prop} {s : Shared}
/-- list(e) of an iterator of the built-in class T that tells no length -/
theorem call_list_it {Q : Value → Shared → Prop} {T : String} {e : Addr} (t1 : (Value.type T == Value.type "list") = false) (t2 : (Value.type T == Value.type "tuple") = false)
    (nl : typeLookup (.type T) "__len__" = pure none) (nh : typeLookup (.type T) "__length_hint__" = pure none) (hel : e < s.heap.objs.size)
    (hT : ∀ (s2 : Shared), (∀ b o, b ≠ s.heap.objs.size → s.heap.get? b = some o → s2.heap.get? b = some o) → s2.TypeIs (.ref e) T)
    (hI : ∀ (s2 : Shared) (A2 : Around) (E2 : Value → Shared → Prop) (Q2 : Value → Shared → Prop), (∀ b o, b ≠ s.heap.objs.size → s.heap.get? b = some o → s2.heap.get? b = some o) → Q2 (.ref e) s2 → wpAny (model prog w) A2 (pyIter (.ref e)) Q2 E2 s2)
    (hloop : ∀ (h2 : Heap) (c : Nat), (∀ b o, b ≠ s.heap.objs.size → s.heap.get? b = some o → h2.get? b = some o) → h2.objs.size = s.heap.objs.size + 1 →
      h2.get? s.heap.objs.size = some { cls := .type "list", dict := none, data := .seq #[] c, slots := #[] } →
      codeAny (model prog w) A.in1 (.builtin "list.extend.loop" ⟨[.ref s.heap.objs.size, .ref e, .none], []⟩) (wants (fun r s₂ => r = .none ∧ Q (.ref s.heap.objs.size) s₂) E) { s with heap := h2 }) :
    wpAny (model prog w) A (call (.type "list") [.ref e]) Q E s := by
  refine callType_codes (Q₁ := fun obj s₁ => obj = .ref s.heap.objs.size ∧ s₁ = { s with heap := s.heap.push { cls := .type "list", data := .seq #[] } }) F.called_list (F.typeCall_list_1 _) F.entry_list_init
    (code_list_new _ ⟨rfl, rfl⟩) fun obj s₁ h₁ => ?_
  obtain ⟨rfl, rfl⟩ := h₁
  have hS : (s.heap.push { cls := .type "list", data := .seq #[] }).get? s.heap.objs.size = some { cls := .type "list", data := .seq #[] } := Heap.get?_push_size _ rfl
  refine ⟨⟨_, hS, rfl⟩, F.args_list_init_2 _ _, ?_⟩
  generalize hSS : s.heap.objs.size = S at *
  show wpAny _ _ (do let old ← Builtin.List.listItems (.ref S); Builtin.List.listUpdate (.ref S) (fun _ => #[]); letGo old.toList.reverse; Builtin.List.listExtendWith (.ref S) (.ref e) .none) _ _ _
  have hSe : S ≠ e := Nat.ne_of_gt hel
  refine wpAny_bind ?_
  unfold Builtin.List.listItems
  refine wpAny_bind (wpAny_seqItems hS rfl (wpAny_pure ?_))
  show wpAny _ _ (updateSeq S (fun _ => #[]) >>= fun _ => letGo (#[] : Array Value).toList.reverse >>= fun _ => Builtin.List.listExtendWith (.ref S) (.ref e) .none) _ _ _
  refine wpAny_bind (wpAny_updateSeq hS rfl ?_)
  have hS₂ := Heap.get?_update_self (Obj.mapSeq (fun _ => (#[] : Array Value))) hS rfl
  have oth : ∀ b o, b ≠ S → s.heap.get? b = some o → ((s.heap.push { cls := .type "list", data := .seq #[] }).update S (Obj.mapSeq (fun _ => (#[] : Array Value)))).get? b = some o :=
    fun b o hb q => (Heap.get?_update_other _ _ (Ne.symm hb)).trans (Heap.get?_push_of_some _ q)
  have hz2 : ((s.heap.push { cls := .type "list", data := .seq #[] }).update S (Obj.mapSeq (fun _ => (#[] : Array Value)))).objs.size = S + 1 := by rw [Heap.size_update, Heap.size_push, hSS]
  refine wpAny_bind (wpAny_letGo ?_)
  generalize (s.heap.push { cls := .type "list", data := .seq #[] }).update S (Obj.mapSeq (fun _ => (#[] : Array Value))) = h2 at *
  have hT2 : Shared.TypeIs { s with heap := h2 } (.ref e) T := hT _ oth
  unfold Builtin.List.listExtendWith
  refine wpAny_bind (wpAny_typeOf hT2 ?_)
  have h1 : Builtin.List.listSameRef (.ref S) (.ref e) = false := by simp [Builtin.List.listSameRef, hSe]
  simp only [h1, t1, t2, Bool.or_false, Bool.false_eq_true, if_false]
  refine wpAny_bind (hI _ _ _ _ oth ?_)
  refine wpAny_bind (wpAny_holding ?_)
  unfold Builtin.List.listLengthHint
  refine wpAny_bind (wpAny_specialOf hT2 nl ?_)
  show wpAny _ _ (specialOf (Value.ref e) (Str.ofString "__length_hint__") >>= _) _ _ _
  refine wpAny_bind (wpAny_specialOf hT2 nh ?_)
  refine wpAny_pure ?_
  show wpAny _ _ (rule "list.extend.makes-room" >>= fun _ => Builtin.List.listTouch (.ref S) >>= fun _ =>
    again (.builtin "list.extend.loop" ⟨[.ref S, .ref e, .none], []⟩)) _ _ _
  refine wpAny_bind (wpAny_rule ?_)
  refine wpAny_bind ?_
  show wpAny _ _ (updateSeq S (·.push .none) >>= fun _ => updateSeq S (·.pop)) _ _ _
  refine wpAny_bind (wpAny_updateSeq hS₂ rfl ?_)
  have hS₃ := Heap.get?_update_self (Obj.mapSeq (·.push Value.none)) hS₂ rfl
  refine wpAny_updateSeq (hz := by seq_fits) hS₃ rfl ?_
  have hS₄ := Heap.get?_update_self (Obj.mapSeq (·.pop)) hS₃ rfl
  refine wpAny_pure ⟨plainId_quiet F.plain_extend_loop _, hloop _ _ (fun b o hb q => (Heap.get?_update_other _ _ (Ne.symm hb)).trans ((Heap.get?_update_other _ _ (Ne.symm hb)).trans (oth b o hb q))) (by rw [Heap.size_update, Heap.size_update, hz2]) hS₄⟩

namespace FF
theorem zip_no_len : typeLookup (.type "zip") "__len__" = pure none := by rw [typeLookup_type, builtinLookup_eq_fast]; kernel_rfl
theorem zip_no_hint : typeLookup (.type "zip") "__length_hint__" = pure none := by rw [typeLookup_type, builtinLookup_eq_fast]; kernel_rfl
end FF
end
end L2
namespace L2
open PySem PySem.Spec PyProof.Rows
/-- the addresses that a list of references holds -/
def adrs (acc : Array Value) : List Addr := acc.toList.map fun v => match v with | .ref a => a | _ => 0
/-- new tuples at ts and a list of them at S: the abstract objects -/
noncomputable def newPrs (S : Addr) (ts : List Addr) (f : Nat → HO) : Hp := fun b => if b = S then some (.lst (ts.map V.ref)) else if b ∈ ts then some (f (ts.idxOf b)) else none
theorem idx_at {ts : List Addr} {b : Addr} (h : b ∈ ts) : ts[ts.idxOf b]? = some b := by
  induction ts with
  | nil => cases h
  | cons c r ih =>
    by_cases e : c = b
    · subst e
      simp [List.idxOf_cons]
    · have h' : b ∈ r := by
        rcases List.mem_cons.mp h with z | z
        · exact absurd z.symm e
        · exact z
      have e' : (c == b) = false := beq_eq_false_iff_ne.mpr e
      rw [List.idxOf_cons, e']
      simpa using ih h'
section
variable {X : Cx} {pins : List (Addr × Obj)} {σ : St} {H : Hp} {s : Shared}
/-- the whole step, for tuples: S the list, ts its tuples; the j-th holds f j -/
theorem Inv.newPairs {h' : Heap} {t' : Nat} {S : Addr} {acc : Array Value} {c : Nat} {f : Nat → List V} (I : Inv X pins σ H s) (k : ∀ b u, s.heap.get? b = some u → h'.get? b = some u) (hS : s.heap.objs.size ≤ S)
    (e : h'.get? S = some { cls := .type "list", dict := none, data := .seq acc c, slots := #[] }) (hz : acc.size ≤ sizeLine)
    (hp : ∀ (j : Nat) (u : Value), acc[j]? = some u → ∃ (T : Addr) (us : List Value), u = .ref T ∧ S < T ∧ Vals (f j) us ∧ us.length ≤ 2 ∧ h'.get? T = some { cls := .type "tuple", data := .seq us.toArray })
    (inj : ∀ (i j : Nat) (T : Addr), acc[i]? = some (.ref T) → acc[j]? = some (.ref T) → i = j) :
    ∃ (H' : Hp) (ts : List Addr), Inv X pins σ H' { s with heap := h', toks := t' } ∧ Same H H' ∧ H S = none ∧ H' S = some (.lst (ts.map V.ref)) ∧ ts.length = acc.size ∧ (∀ t ∈ ts, H t = none) ∧ ∀ (j : Nat) (t : Addr), ts[j]? = some t → H' t = some (.tup (f j)) := by
  have at1 : ∀ (j : Nat) (t : Addr), (adrs acc)[j]? = some t → acc[j]? = some (.ref t) := fun j t q => by
    unfold adrs at q
    rw [List.getElem?_map, Array.getElem?_toList] at q
    cases q' : acc[j]? with
    | none => rw [q'] at q; cases q
    | some u =>
      obtain ⟨T, us, rfl, _⟩ := hp j u q'
      rw [q'] at q
      have z := Option.some.inj q
      have z' : T = t := z
      rw [z']
  have mem : ∀ t, t ∈ adrs acc → ∃ us, S < t ∧ Vals (f ((adrs acc).idxOf t)) us ∧ us.length ≤ 2 ∧ h'.get? t = some { cls := .type "tuple", data := .seq us.toArray } := fun t ht => by
    obtain ⟨T, us, e1, r⟩ := hp _ _ (at1 _ _ (idx_at ht))
    cases e1
    exact ⟨us, r⟩
  have fr : ∀ b, s.heap.objs.size ≤ b → H b = none := fun b hb => I.hok.fresh hb
  have neS : ∀ t, t ∈ adrs acc → t ≠ S := fun t ht => by
    obtain ⟨us, h1, _⟩ := mem t ht
    exact Nat.ne_of_gt h1
  have nS : newPrs S (adrs acc) (fun j => .tup (f j)) S = some (.lst ((adrs acc).map V.ref)) := if_pos rfl
  have nT : ∀ t, t ∈ adrs acc → newPrs S (adrs acc) (fun j => .tup (f j)) t = some (.tup (f ((adrs acc).idxOf t))) := fun t ht => by
    unfold newPrs
    rw [if_neg (neS t ht), if_pos ht]
  have vr : Vals ((adrs acc).map V.ref) acc.toList := by
    have go : ∀ (l : List Value), (∀ u ∈ l, ∃ T, u = Value.ref T) → Vals ((l.map fun v => match v with | .ref a => a | _ => 0).map V.ref) l := by
      intro l
      induction l with
      | nil => intro _; exact .nil
      | cons u r ih =>
        intro h
        obtain ⟨T, rfl⟩ := h u List.mem_cons_self
        exact .cons rfl (ih fun v hv => h v (List.mem_cons_of_mem _ hv))
    refine go acc.toList fun u hu => ?_
    obtain ⟨j, hj⟩ := List.getElem?_of_mem hu
    rw [Array.getElem?_toList] at hj
    obtain ⟨T, us, e1, _⟩ := hp j u hj
    exact ⟨T, e1⟩
  refine ⟨over H (newPrs S (adrs acc) fun j => .tup (f j)), adrs acc, I.laidMany k (fun b o q => ?_) (fun b o q => ?_), fun b o q => ?_, fr S hS, over_new nS, ?_, fun t ht => ?_, fun j t q => ?_⟩
  · by_cases hb : b = S
    · rw [hb]; exact hS
    · by_cases hm : b ∈ adrs acc
      · obtain ⟨us, h1, _⟩ := mem b hm
        exact Nat.le_trans hS (Nat.le_of_lt h1)
      · unfold newPrs at q
        rw [if_neg hb, if_neg hm] at q
        cases q
  · by_cases hb : b = S
    · subst hb
      rw [nS] at q
      cases q
      exact ⟨by rw [List.length_map]; unfold adrs; rw [List.length_map, Array.length_toList]; exact hz, acc.toList, c, vr, by simpa using e⟩
    · by_cases hm : b ∈ adrs acc
      · rw [nT b hm] at q
        cases q
        obtain ⟨us, h1, h2, h3, h4⟩ := mem b hm
        exact ⟨by rw [h2.length]; exact Nat.le_trans h3 (by decide), us, h2, ⟨_, h4, rfl, _, rfl⟩⟩
      · unfold newPrs at q
        rw [if_neg hb, if_neg hm] at q
        cases q
  · cases q' : newPrs S (adrs acc) (fun j => .tup (f j)) b with
    | none => rw [over_old q']; exact SamO.of q
    | some o' =>
      exfalso
      have hb : s.heap.objs.size ≤ b := by
        by_cases hb : b = S
        · rw [hb]; exact hS
        · by_cases hm : b ∈ adrs acc
          · obtain ⟨us, h1, _⟩ := mem b hm
            exact Nat.le_trans hS (Nat.le_of_lt h1)
          · unfold newPrs at q'
            rw [if_neg hb, if_neg hm] at q'
            cases q'
      rw [fr b hb] at q
      cases q
  · unfold adrs; rw [List.length_map, Array.length_toList]
  · obtain ⟨us, h1, _⟩ := mem t ht
    exact fr t (Nat.le_trans hS (Nat.le_of_lt h1))
  · have hm : t ∈ adrs acc := List.mem_of_getElem? q
    have ei : (adrs acc).idxOf t = j := inj _ _ t (at1 _ _ (idx_at hm)) (at1 _ _ q)
    rw [over_new (nT t hm), ei]
end

theorem boot_list_ty : bootBuiltins "list" = some (.type "list") := by decide +kernel
end L2

set_option Elab.async false
set_option linter.all false
set_option maxRecDepth 100000
set_option maxHeartbeats 4000000
namespace L2
open PySem PySem.Spec PyProof.Rows
def Fn (P : Program) (w : World) (K : PySem.W.Frag) (mg : Str → Option Value) (base : Heap) (k : Nat) (x : Str) (ps : List Str) (sp : Sp) : Prop :=
  ∃ (f : Addr) (fd : FuncData), mg x = some (.ref f) ∧ PySem.W.keepIn K (.ref f) = true ∧ Binds K fd ps [] ∧ FnOk P w K mg base CX0 k f fd ps sp
/-- where a def stands -/
def DefAt (K : PySem.W.Frag) (mg : Str → Option Value) (x : Str) (st : Stmt) (ps : List Str) : Prop :=
  ∃ (f : Addr) (fd : FuncData), mg x = some (.ref f) ∧ Fun K x x st f fd ∧ Binds K fd ps []
section
variable {P : Program} {w : World} {K : PySem.W.Frag} {mg : Str → Option Value} {base : Heap}
theorem DefAt.fn {x : Str} {st : Stmt} {N ps : List Str} {k : Nat} {sp : Sp} (D : DefAt K mg x st ps) (S : FnScope N ps (defScope st)) (len : ∀ vs H Q E, sp vs H Q E → vs.length = ps.length)
    (hbody : ∀ (f : Addr) (cdv : Value) (A : Around) (outer : List Env) (s : Shared) (H : Hp) (vs : List V) (Q : VK) (E : XK), Room k (A.deeper (envOfC x (defScope st) s.heap.objs.size f cdv)) → sp vs H Q E →
      ∃ t, PSs (cxOf CX0 P w K mg base N x (defScope st) f cdv A outer s H E).nox (defBody st) t ∧ t { nx := fun _ H' => Q .non H', rt := Q } (start N vs) H) : Fn P w K mg base (k + 1) x ps sp := by
  obtain ⟨f, fd, hm, F, b⟩ := D
  exact ⟨f, fd, hm, F.kp, b, F.ok S len fun cdv A outer s H vs Q E hr h => hbody f cdv A outer s H vs Q E hr h⟩
theorem defAt_mk {h : Heap} (X : K.In h) (G : h.Ns mainGlobals mg) {x : Str} {st : Stmt} {ps : List Str} {f : Addr} {oc : Value} {od an : Option Addr} {osl : Array (Option Value)} {kV doc pm cdv ct : Value}
    (a : PySem.W.nsIn K mainGlobals x = some (some (.ref f))) (l : K.lookup f = some ⟨oc, od, .func (PySem.W.fnOf x x (defArgs st) (defBody st) (defScope st) .none kV doc pm an cdv ct), osl⟩)
    (c : PySem.W.codeIn K cdv x = true) (k : PySem.W.keepIn K (.ref f) = true)
    (hb : ∀ (kV doc pm : Value) (an : Option Addr) (cdv ct : Value) (us : List Value), us.length = ps.length → bindArgs (PySem.W.fnOf x x (defArgs st) (defBody st) (defScope st) .none kV doc pm an cdv ct) ⟨us, []⟩ = pure (ps.zip us)) : DefAt K mg x st ps :=
  have F := fun_mk (st := st) l c k
  ⟨f, _, PySem.W.mg_of X G a, F, F.binds hb⟩
end
/-- a call of a def of the text -/
theorem pe_fn {X : Cx} {j k : Nat} {x : Str} {ps : List Str} {sp : Sp} {p pos : Pos} {e : Expr} {es : List Expr} {t : TA} (F : Fn X.prog X.w X.K X.mg X.base k x ps sp) (hr : Room j X.A) (hg : Gl X x) (ha : PA X (e :: es) t) (hx : ∀ v s, ¬ X.xe v s → X.xe = X.xe := by intros; rfl)
    (hjk : k ≤ j := by decide) (hdb : (x == ("__debug__" : Str)) = false := by decide) (he : starEach (e :: es) X.env = (false, eval e X.env) :: starEach es X.env := by rfl) (hpl : (backTo pos (starEach es X.env)).any (·.1) = false := by rfl) :
    PE X (.Call (.Name x p) (e :: es) [] pos) (tCall sp [] E0 t) := by
  obtain ⟨f, fd, hm, kp, b, G⟩ := F
  exact pe_call G (hr.mono hjk) hg hm kp b .nil pass0 ha hdb he hpl
/-- the built-ins that are used, not hidden by the text -/
def Bl (mg : Str → Option Value) (l : List Str) : Prop := ∀ x, x ∈ l → mg x = none

/-- all but the list at p is as it was; p is a hand -/
def Hand (H : Hp) (p : Addr) : Prop := ∃ d e : Int, H p = some (.lst [.int d, .int e]) ∧ 0 ≤ e ∧ e < 2147483587
/-- what was there but at p is as it was -/
def But (p : Addr) (H H' : Hp) : Prop := ∀ b o, b ≠ p → H b = some o → SamO o (H' b)
theorem But.refl (p : Addr) (H : Hp) : But p H H := fun _ _ _ h => SamO.of h
theorem But.ap {p : Addr} {H H' : Hp} (s : But p H H') {c : Addr} {o : HO} (n : c ≠ p) (h : SamO o (H c)) : SamO o (H' c) := by
  cases o <;> first
    | exact s c _ n h
    | (obtain ⟨qs, e⟩ := h; have z : ∃ r, H' c = Option.some (.tbl r) := s c (.tbl qs) n e; exact z)
theorem But.trans {p : Addr} {H H1 H2 : Hp} (a : But p H H1) (b : But p H1 H2) : But p H H2 := fun c o n h => b.ap n (a c o n h)
theorem But.same {p : Addr} {H H1 H2 : Hp} (s : Same H H1) (f : H p = none) (b : But p H1 H2) : Same H H2 := fun c o e => b.ap (ne_of_none e f) (s c o e)
theorem But.upd {p : Addr} {H : Hp} (o : HO) : But p H (upd H p o) := fun b _ n h => by rw [upd_ne n]; exact SamO.of h
theorem But.new {p q : Addr} {H : Hp} {o : HO} (h : H q = none) : But p H (L2.upd H q o) := fun b u n e => by rw [upd_ne (ne_of_none e h)]; exact SamO.of e
theorem Same.new {q : Addr} {H : Hp} {o : HO} (h : H q = none) : Same H (L2.upd H q o) := fun b u e => by rw [upd_ne (ne_of_none e h)]; exact SamO.of e
theorem Same.but {p : Addr} {H H' : Hp} (s : Same H H') : But p H H' := fun b o _ e => s b o e
theorem Hand.new {H : Hp} {p q : Addr} {o : HO} (h : Hand H p) (n : H q = none) : Hand (L2.upd H q o) p := by
  obtain ⟨d, e, h, r⟩ := h
  exact ⟨d, e, by rw [upd_ne (ne_of_none h n)]; exact h, r⟩
theorem Hand.same {H H' : Hp} {p : Addr} (h : Hand H p) (s : Same H H') : Hand H' p := by
  obtain ⟨d, e, h, r⟩ := h
  exact ⟨d, e, s _ _ h, r⟩
theorem But.lst {p a : Addr} {H H' : Hp} {xs : List V} (s : But p H H') (n : a ≠ p) (h : H a = some (.lst xs)) : H' a = some (.lst xs) := s _ _ n h
theorem But.seq {K : PySem.W.Frag} {p a : Addr} {H H' : Hp} {xs : List V} (s : But p H H') (n : a ≠ p) (h : SqL K H a xs) : SqL K H' a xs := by
  rcases h with (h | ⟨o, h⟩) | h
  · exact .inl (.inl (s _ _ n h))
  · exact .inl (.inr ⟨o, s _ _ n h⟩)
  · exact .inr h
theorem free_of_but {p : Addr} {H H' : Hp} {l : Addr} (s : But p H H') (hp : H' p ≠ none) (h : H' l = none) : H l = none := by
  cases q : H l with
  | none => rfl
  | some o =>
    by_cases e : l = p
    · subst e; exact absurd h hp
    · obtain ⟨u, z⟩ := (s l o e q).some; rw [z] at h; cases h
theorem Hand.ne {H : Hp} {p q : Addr} (h : Hand H p) (n : H q = none) : q ≠ p := by
  obtain ⟨d, e, h, _⟩ := h
  exact (ne_of_none h n).symm
/-- a store at an address that was free in H -/
theorem But.at {p D : Addr} {H H' : Hp} {o : HO} (s : But p H H') (f : H D = none) : But p H (L2.upd H' D o) := fun b u n e => by
  rw [upd_ne (ne_of_none e f)]; exact s b u n e
theorem Hand.at {H : Hp} {p D : Addr} {o : HO} (h : Hand H p) (n : D ≠ p) : Hand (L2.upd H D o) p := by
  obtain ⟨d, e, h, r⟩ := h
  exact ⟨d, e, by rw [upd_ne n.symm]; exact h, r⟩
theorem Hand.some {H : Hp} {p : Addr} (h : Hand H p) : H p ≠ none := by
  obtain ⟨d, e, h, _⟩ := h
  rw [h]; simp
end L2

set_option Elab.async false
set_option linter.all false
set_option maxRecDepth 100000
set_option maxHeartbeats 4000000
namespace L2
open PySem PySem.Spec PyProof.Rows
abbrev intsD (ns : List Int) : PyData := .list (ns.map PyData.int)
abbrev prD (p : Int × Int) : PyData := .tuple [.int p.1, .int p.2]
abbrev prsD (ps : List (Int × Int)) : PyData := .list (ps.map prD)
section
variable {K : PySem.W.Frag} {H : Hp}
theorem dpInts (ns : List Int) : DpAll K H (ns.map V.int) (ns.map PyData.int) := by
  induction ns with
  | nil => exact .nil
  | cons n r ih => exact .cons (.int n) ih
theorem dpInts' {a : Addr} {ns : List Int} (h : SqL K H a (ns.map V.int)) : Dp K H (.ref a) (intsD ns) := .lst h (dpInts ns)
mutual
theorem Dp.same {H' : Hp} (s : Same H H') : ∀ (d : PyData) (v : V), Dp K H v d → Dp K H' v d
  | .none, _, h => by cases h; exact .non
  | .bool b, _, h => by cases h; exact .bl b
  | .int i, _, h => by cases h; exact .int i
  | .str x, _, h => by cases h; exact .str x
  | .list ds, _, h => by
    cases h with
    | lst hs ha => exact .lst (s.seq hs) (DpAll.same s ds _ ha)
  | .tuple ds, _, h => by
    cases h with
    | tup hs ha =>
      refine .tup ?_ (DpAll.same s ds _ ha)
      rcases hs with (h | ⟨o, h⟩) | h
      · exact .inl (.inl (s _ _ h))
      · exact .inl (.inr ⟨o, s _ _ h⟩)
      · exact .inr h
  | .dict _, _, h => by cases h
theorem DpAll.same {H' : Hp} (s : Same H H') : ∀ (ds : List PyData) (vs : List V), DpAll K H vs ds → DpAll K H' vs ds
  | [], _, h => by cases h; exact .nil
  | d :: ds, _, h => by
    cases h with
    | cons h1 h2 => exact .cons (Dp.same s d _ h1) (DpAll.same s ds _ h2)
end
end
theorem canLayInts (ns : List Int) : PyData.canLayAll0 (ns.map PyData.int) = true := by
  induction ns with
  | nil => rfl
  | cons n r ih =>
    rw [List.map_cons]
    simp [PyData.canLayAll0, PyData.canLay0, ih]
theorem depthInts (ns : List Int) : PyData.depthAll (ns.map PyData.int) ≤ 1 := by
  induction ns with
  | nil => simp [PyData.depthAll]
  | cons n r ih =>
    rw [List.map_cons]
    simp only [PyData.depthAll, PyData.depth]
    omega
theorem shapedInts (ns : List Int) : SeqAt.shaped (intsD ns) = true := by
  have h1 := canLayInts ns
  have h2 := depthInts ns
  unfold SeqAt.shaped
  simp only [PyData.canLay0, PyData.depth, h1, Bool.true_and]
  exact decide_eq_true (by omega)
theorem eqvAllInts : ∀ (ns ms : List Int), PyData.eqvAll (ns.map PyData.int) (ms.map PyData.int) = decide (ns = ms)
  | [], [] => by simp [PyData.eqvAll]
  | [], _ :: _ => by simp [PyData.eqvAll]
  | _ :: _, [] => by simp [PyData.eqvAll]
  | n :: ns, m :: ms => by
    rw [List.map_cons, List.map_cons]
    simp only [PyData.eqvAll, PyData.eqv, eqvAllInts ns ms, List.cons.injEq, Bool.decide_and]
    rfl
theorem eqvInts (ns ms : List Int) : PyData.eqv (intsD ns) (intsD ms) = decide (ns = ms) := by
  simp only [PyData.eqv]; exact eqvAllInts ns ms
section
variable {X : Cx}
def rEqLI (K : PySem.W.Frag) : R2 := fun x y H Q => ∃ (a b : Addr) (ns ms : List Int), x = .ref a ∧ y = .ref b ∧ SqL K H a (ns.map V.int) ∧ SqL K H b (ms.map V.int) ∧ Q (.bl (decide (ns = ms))) H
def rNeLI (K : PySem.W.Frag) : R2 := fun x y H Q => ∃ (a b : Addr) (ns ms : List Int), x = .ref a ∧ y = .ref b ∧ SqL K H a (ns.map V.int) ∧ SqL K H b (ms.map V.int) ∧ Q (.bl (!decide (ns = ms))) H
theorem op_eqLI (hu : X.A.units + 64 < cLine) : OpR X (compareOp .Eq) (rEqLI X.K) := by
  intro pins s σ H x y v u Q I rx ry h
  obtain ⟨a, b, ns, ms, rfl, rfl, h1, h2, q⟩ := h
  exact op_eqD hu pins s σ H _ _ v u Q I rx ry ⟨_, _, dpInts' h1, dpInts' h2, shapedInts _, shapedInts _, by rw [eqvInts]; exact q⟩
theorem op_neLI (hu : X.A.units + 64 < cLine) : OpR X (compareOp .NotEq) (rNeLI X.K) := by
  intro pins s σ H x y v u Q I rx ry h
  obtain ⟨a, b, ns, ms, rfl, rfl, h1, h2, q⟩ := h
  exact op_neD hu pins s σ H _ _ v u Q I rx ry ⟨_, _, dpInts' h1, dpInts' h2, shapedInts _, shapedInts _, by rw [eqvInts]; exact q⟩
end
/-- a slice of a list of ints -/
def cutI (ns : List Int) (lo hi : Option Int) : List Int := (ns.drop (HT.sIx ns.length 0 lo)).take (HT.sIx ns.length ns.length hi - HT.sIx ns.length 0 lo)
theorem cut_ints (ns : List Int) (lo hi : Option Int) : cutV (ns.map V.int) lo hi = (cutI ns lo hi).map V.int := by
  unfold cutV cutI
  rw [List.length_map, List.map_take, List.map_drop]
theorem cutI_len (ns : List Int) (lo hi : Option Int) : (cutI ns lo hi).length ≤ ns.length := by
  unfold cutI
  rw [List.length_take, List.length_drop]
  omega
theorem cutI_mem {ns : List Int} {lo hi : Option Int} {n : Int} (h : n ∈ cutI ns lo hi) : n ∈ ns := List.mem_of_mem_drop (List.mem_of_mem_take h)
theorem cutI_to (ns : List Int) (k : Int) (h0 : 0 ≤ k) : cutI ns none (some k) = ns.take k.toNat := by
  unfold cutI HT.sIx
  dsimp only
  rw [if_neg (by omega), Nat.sub_zero, List.drop_zero]
  rcases Nat.le_total k.toNat ns.length with h | h
  · rw [Nat.min_eq_left h]
  · rw [Nat.min_eq_right h, List.take_of_length_le (Nat.le_refl _), List.take_of_length_le h]
theorem line1000 {n : Nat} (h : n ≤ 1000) : n ≤ sizeLine := Nat.le_of_lt (small1000 h)
theorem at_pick {ns : List Int} {i : Int} (h0 : 0 ≤ i) (h1 : i < ns.length) : ∃ v, v ∈ ns ∧ atI (ns.map V.int) i = some (V.int v) := by
  have hl : i.toNat < ns.length := by omega
  refine ⟨ns[i.toNat], List.getElem_mem hl, at_of (j := i.toNat) (by omega) ?_⟩
  rw [List.getElem?_map, List.getElem?_eq_getElem hl]
  rfl
theorem ix_nat {n : Nat} {i : Int} (h0 : 0 ≤ i) (h1 : i < n) : ixN n i = some i.toNat := by
  unfold ixN
  rw [if_pos h0, if_pos h1]
theorem seqJ {t rest : TS} {D : Ends} {σ : St} {H : Hp} (J : St → Hp → Prop) (h1 : (∀ σ' H', J σ' H' → rest D σ' H') → t { D with nx := rest D } σ H) (h2 : ∀ σ' H', J σ' H' → rest D σ' H') : tSeq t rest D σ H := h1 h2
theorem at_int {ns : List Int} {i : Int} (h0 : 0 ≤ i) (h1 : i < ns.length) : atI (ns.map V.int) i = some (V.int (ns.getD i.toNat 0)) := by
  have hl : i.toNat < ns.length := by omega
  refine at_of (j := i.toNat) (by omega) ?_
  rw [List.getElem?_map, List.getElem?_eq_getElem hl]
  simp [List.getD_eq_getElem?_getD, List.getElem?_eq_getElem hl]
end L2

set_option Elab.async false
set_option linter.all false
set_option maxRecDepth 100000
set_option maxHeartbeats 4000000
namespace L2
open PySem PySem.Spec PyProof.Rows
def minL : List Int → Int
  | [] => 0
  | [a] => a
  | a :: b :: r => if minL (b :: r) < a then minL (b :: r) else a
def maxL : List Int → Int
  | [] => 0
  | [a] => a
  | a :: b :: r => if a < maxL (b :: r) then maxL (b :: r) else a
theorem minL_spec : ∀ {l : List Int}, l ≠ [] → minL l ∈ l ∧ ∀ y ∈ l, minL l ≤ y
  | [], h => absurd rfl h
  | [a], _ => ⟨List.mem_singleton.mpr rfl, fun y hy => by rw [List.mem_singleton.mp hy]; exact Int.le_refl _⟩
  | a :: b :: r, _ => by
    have ih := minL_spec (l := b :: r) (by simp)
    have e : minL (a :: b :: r) = if minL (b :: r) < a then minL (b :: r) else a := rfl
    by_cases h : minL (b :: r) < a
    · rw [if_pos h] at e
      rw [e]
      refine ⟨List.mem_cons_of_mem _ ih.1, fun y hy => ?_⟩
      rcases List.mem_cons.mp hy with z | z
      · omega
      · exact ih.2 y z
    · rw [if_neg h] at e
      rw [e]
      refine ⟨List.mem_cons_self, fun y hy => ?_⟩
      rcases List.mem_cons.mp hy with z | z
      · omega
      · have := ih.2 y z; omega
theorem maxL_spec : ∀ {l : List Int}, l ≠ [] → maxL l ∈ l ∧ ∀ y ∈ l, y ≤ maxL l
  | [], h => absurd rfl h
  | [a], _ => ⟨List.mem_singleton.mpr rfl, fun y hy => by rw [List.mem_singleton.mp hy]; exact Int.le_refl _⟩
  | a :: b :: r, _ => by
    have ih := maxL_spec (l := b :: r) (by simp)
    have e : maxL (a :: b :: r) = if a < maxL (b :: r) then maxL (b :: r) else a := rfl
    by_cases h : a < maxL (b :: r)
    · rw [if_pos h] at e
      rw [e]
      refine ⟨List.mem_cons_of_mem _ ih.1, fun y hy => ?_⟩
      rcases List.mem_cons.mp hy with z | z
      · omega
      · exact ih.2 y z
    · rw [if_neg h] at e
      rw [e]
      refine ⟨List.mem_cons_self, fun y hy => ?_⟩
      rcases List.mem_cons.mp hy with z | z
      · omega
      · have := ih.2 y z; omega
theorem minL_uniq {l : List Int} {m : Int} (h1 : m ∈ l) (h2 : ∀ y ∈ l, m ≤ y) : minL l = m := by
  have hne : l ≠ [] := fun e => by rw [e] at h1; cases h1
  have := minL_spec hne
  have a := this.2 m h1
  have b := h2 _ this.1
  omega
theorem maxL_uniq {l : List Int} {m : Int} (h1 : m ∈ l) (h2 : ∀ y ∈ l, y ≤ m) : maxL l = m := by
  have hne : l ≠ [] := fun e => by rw [e] at h1; cases h1
  have := maxL_spec hne
  have a := this.2 m h1
  have b := h2 _ this.1
  omega
theorem minL_neg {x : List Int} (hx : x ≠ []) : minL (x.map fun n => 0 - n) = 0 - maxL x := by
  have a := maxL_spec hx
  refine minL_uniq (List.mem_map.mpr ⟨_, a.1, rfl⟩) fun y hy => ?_
  obtain ⟨z, hz, rfl⟩ := List.mem_map.mp hy
  have := a.2 z hz; omega
theorem maxL_neg {x : List Int} (hx : x ≠ []) : maxL (x.map fun n => 0 - n) = 0 - minL x := by
  have a := minL_spec hx
  refine maxL_uniq (List.mem_map.mpr ⟨_, a.1, rfl⟩) fun y hy => ?_
  obtain ⟨z, hz, rfl⟩ := List.mem_map.mp hy
  have := a.2 z hz; omega
theorem minL_add {x : List Int} (hx : x ≠ []) (c : Int) : minL (x.map fun n => n + c) = minL x + c := by
  have a := minL_spec hx
  refine minL_uniq (List.mem_map.mpr ⟨_, a.1, rfl⟩) fun y hy => ?_
  obtain ⟨z, hz, rfl⟩ := List.mem_map.mp hy
  have := a.2 z hz; omega
theorem maxL_add {x : List Int} (hx : x ≠ []) (c : Int) : maxL (x.map fun n => n + c) = maxL x + c := by
  have a := maxL_spec hx
  refine maxL_uniq (List.mem_map.mpr ⟨_, a.1, rfl⟩) fun y hy => ?_
  obtain ⟨z, hz, rfl⟩ := List.mem_map.mp hy
  have := a.2 z hz; omega
/-- the first place of n in a list -/
def fst (n : Int) : List Int → Nat
  | [] => 0
  | a :: r => if a = n then 0 else fst n r + 1
theorem fst_at {n : Int} : ∀ {l : List Int}, n ∈ l → l[fst n l]? = some n ∧ fst n l < l.length ∧ ∀ (m : Nat) (z : Int), m < fst n l → l[m]? = some z → z ≠ n
  | [], h => nomatch h
  | a :: r, h => by
    by_cases e : a = n
    · have ef : fst n (a :: r) = 0 := if_pos e
      rw [ef]
      exact ⟨by simp [e], by simp, fun m z hm => absurd hm (by omega)⟩
    · have ef : fst n (a :: r) = fst n r + 1 := if_neg e
      have h' : n ∈ r := by
        rcases List.mem_cons.mp h with z | z
        · exact absurd z.symm e
        · exact z
      obtain ⟨h1, h2, h3⟩ := fst_at h'
      rw [ef]
      refine ⟨by simpa using h1, by simp; omega, fun m z hm q => ?_⟩
      cases m with
      | zero =>
        have : a = z := by simpa using q
        rw [← this]; exact e
      | succ m => exact h3 m z (by omega) (by simpa using q)
theorem fst_uniq {n : Int} {l : List Int} {j : Nat} (h1 : l[j]? = some n) (h2 : ∀ (m : Nat) (z : Int), m < j → l[m]? = some z → z ≠ n) : fst n l = j := by
  have hm : n ∈ l := List.mem_of_getElem? h1
  obtain ⟨a1, a2, a3⟩ := fst_at hm
  rcases Nat.lt_trichotomy (fst n l) j with z | z | z
  · exact absurd rfl (h2 _ n z a1)
  · exact z
  · exact absurd rfl (a3 _ n z h1)
/-- a stretch -/
def seg (ns : List Int) (b e : Int) : List Int := (ns.drop b.toNat).take (e.toNat - b.toNat)
/-- begin and end of a stretch of so many -/
structure IsSt (n : Nat) (b e : Int) : Prop where
  b0 : 0 ≤ b
  be : b < e
  en : e ≤ n
theorem seg_len {ns : List Int} {b e : Int} (h : IsSt ns.length b e) : (seg ns b e).length = e.toNat - b.toNat := by
  have := h.b0; have := h.be; have := h.en
  unfold seg
  rw [List.length_take, List.length_drop]
  omega
theorem seg_ne {ns : List Int} {b e : Int} (h : IsSt ns.length b e) : seg ns b e ≠ [] := fun z => by
  have := seg_len h
  rw [z] at this
  have := h.b0; have := h.be
  simp at *
  omega
theorem seg_map (f : Int → Int) (ns : List Int) (b e : Int) : seg (ns.map f) b e = (seg ns b e).map f := by
  unfold seg
  rw [List.map_take, List.map_drop]
theorem seg_get {ns : List Int} {b e : Int} (h0 : 0 ≤ b) {j : Nat} (hj : j < e.toNat - b.toNat) : (seg ns b e)[j]? = ns[b.toNat + j]? := by
  unfold seg
  rw [List.getElem?_take, if_pos hj, List.getElem?_drop]
/-- the first place of the least, within the stretch -/
def pl (l : List Int) : Nat := fst (minL l) l
end L2

set_option Elab.async false
set_option linter.all false
set_option maxRecDepth 100000
set_option maxHeartbeats 4000000
namespace L2
open PySem PySem.Spec PyProof.Rows
theorem ifNe {x y : V} {A B : Prop} (h : x = y) (hB : B) : if (!decide (x = y)) = true then A else B := by
  rw [decide_eq_true h]; exact hB
theorem ifT {c : Prop} [Decidable c] {A B : Prop} (h : c) (hA : A) : if (decide c) = true then A else B := by
  rw [decide_eq_true h]; exact hA
theorem ifNot {c : Prop} [Decidable c] {A B : Prop} (h : c) (hB : B) : if (!decide c) = true then A else B := by
  rw [decide_eq_true h]; exact hB
theorem updupd (H : Hp) (a : Addr) (o o' : HO) : upd (upd H a o) a o' = upd H a o' := by
  funext b
  unfold upd
  by_cases h : b = a
  · rw [if_pos h, if_pos h]
  · rw [if_neg h, if_neg h, if_neg h]
theorem get_ints {ns : List Int} {k : Nat} {x : V} (h : (ns.map V.int)[k]? = some x) : ∃ n, ns[k]? = some n ∧ x = .int n := by
  rw [List.getElem?_map] at h
  cases e : ns[k]? with
  | none => rw [e] at h; cases h
  | some n => rw [e] at h; exact ⟨n, rfl, (Option.some.inj h).symm⟩
theorem take_snoc {α : Type} {l : List α} {k : Nat} {n : α} (h : l[k]? = some n) : l.take (k + 1) = l.take k ++ [n] := by
  rw [List.take_succ, h]; rfl
/-- [f(n) for n in row]: a new list -/
theorem lc_mapI {K : PySem.W.Frag} {a : Addr} {ns : List Int} {f : Int → Int} {te : TE} {i : Nat} {vs : List Nat} {σ : St} {H : Hp} {D : Addr} {Qd : Hp → Prop} (hs : SqL K H a (ns.map V.int)) (hD : H D = none) (hlen : ns.length ≤ 1000)
    (hw : ∀ v, wipe ((wipe σ vs).set i (some v)) vs = wipe σ vs)
    (ht : ∀ (n : Int) (H' : Hp) (R : VK), R (.int (f n)) H' → te ((wipe σ vs).set i (some (.int n))) H' R)
    (hd : Qd (upd H D (.lst ((ns.map f).map V.int)))) :
    ∃ W : Nat → Nat → Hp → Prop, (∃ m, W 0 m (upd H D (.lst []))) ∧ ∀ j m H, W j m H →
      ((Itl K a).stop j H ∧ Qd H) ∨ ((Itl K a).go j H ∧ ∃ Nx : Hp → Prop, (∀ H', Nx H' → ∃ m', m' < m ∧ W (j + 1) m' H') ∧ ∀ x H', (Itl K a).yld j H x H' → gName i x (wipe σ vs) H' fun σ2 H2 => wipe σ2 vs = wipe σ vs ∧ tYes σ2 H2 fun b H3 =>
        if b = true then te σ2 H3 fun y H4 => ∃ acc, H4 D = some (.lst acc) ∧ acc.length < sizeLine ∧ Nx (upd H4 D (.lst (acc ++ [y]))) else Nx H3) := by
  refine lc_list (K := K) (a := a) (xs := ns.map V.int) (fun k H' => H' = upd H D (.lst (((ns.take k).map f).map V.int))) rfl (fun k H' _ e => by rw [e]; exact (Same.new hD).seq hs) ?_ ?_
  · rintro k x H' hx rfl
    obtain ⟨n, hn, rfl⟩ := get_ints hx
    refine ⟨hw _, ?_⟩
    show te ((wipe σ vs).set i (some (.int n))) _ _
    refine ht n _ _ ⟨_, upd_same, ?_, ?_⟩
    · rw [List.length_map, List.length_map]
      exact small1000 (Nat.le_trans (List.length_take_le' k ns) hlen)
    · rw [updupd, take_snoc hn, List.map_append, List.map_append]
      rfl
  · rintro H' rfl
    rw [List.length_map, List.take_length]
    exact hd
end L2

set_option Elab.async false
set_option linter.all false
set_option maxRecDepth 100000
set_option maxHeartbeats 4000000
namespace L2
open PySem PySem.Spec PyProof.Rows
section
variable {X : Cx}
end
end L2

set_option Elab.async false
set_option linter.all false
set_option maxRecDepth 100000
set_option maxHeartbeats 4000000
namespace L2
open PySem PySem.Spec PyProof.Rows
/-- for i, x in enumerate(xs), the list left as it is -/
theorem for_enum {K : PySem.W.Frag} {a : Addr} {xs : List V} {g : TG} {tb : TS} {D : Ends} {σ : St} {H : Hp} (Pv : Nat → St → Hp → Prop) (h0 : Pv 0 σ H) (hl : ∀ i σ H, i ≤ xs.length → Pv i σ H → SqL K H a xs)
    (hs : ∀ i x σ H T, xs[i]? = some x → Pv i σ H → H T = none → g (.ref T) σ (upd H T (.tup [.int (i : Nat), x])) fun σ2 H2 => tb { D with nx := Pv (i + 1), ct := Pv (i + 1), bk := D.nx } σ2 H2) (hd : ∀ σ H, Pv xs.length σ H → D.nx σ H) :
    ∃ W : Nat → Nat → St → Hp → Prop, (∃ m, W 0 m σ H) ∧ ∀ i m σ H, W i m σ H →
      ((Ite K a).stop i H ∧ D.nx σ H) ∨ ((Ite K a).go i H ∧ ∃ N : St → Hp → Prop, (∀ σ' H', N σ' H' → ∃ m', m' < m ∧ W (i + 1) m' σ' H') ∧ ∀ x H', (Ite K a).yld i H x H' → g x σ H' fun σ2 H2 => tb { D with nx := N, ct := N, bk := D.nx } σ2 H2) := by
  refine ⟨fun i m σ H => m = xs.length - i ∧ i ≤ xs.length ∧ Pv i σ H, ⟨xs.length, by simp, Nat.zero_le _, h0⟩, ?_⟩
  rintro i m σ H ⟨rfl, hi, p⟩
  have q := hl i σ H hi p
  by_cases hlt : i < xs.length
  · refine .inr ⟨⟨xs, xs[i], q, by simp [hlt]⟩, Pv (i + 1), fun σ' H' p' => ⟨xs.length - (i + 1), by omega, rfl, hlt, p'⟩, fun x H' y => ?_⟩
    obtain ⟨T, x, e1, e2, e3, y⟩ := y
    subst e1 e3
    exact hs i x σ _ T (y xs q) p e2
  · have e : i = xs.length := by omega
    subst e
    exact .inl ⟨⟨xs, q, Nat.le_refl _⟩, hd σ H p⟩

abbrev ZpO (h : Heap) (z TI TO : Addr) (f0 : Value) (f1 : Bool) : Prop :=
  h.get? z = some { cls := .type "zip", dict := none, data := .fields #[f0, .bool f1, .bool false, .ref TI, .ref TO], slots := #[] }
def ZpSt (h : Heap) (z TI TO : Addr) : Prop := (IsZip h z TI TO .none ∧ ∃ x y, IsPair h TO x y) ∨ ∃ (a : Addr) (o : Obj) (f1 : Bool), ZpO h z TI TO (rawInt a) f1 ∧ h.get? a = some o
section
variable {prog : Program} {w : World} {A : Around} {E : Value → Shared → Prop} {s : Shared}
theorem zp_free {z TI TO a : Addr} {oa : Obj} {f1 : Bool} {Q : Bool → Shared → Prop} (hz : ZpO s.heap z TI TO (rawInt a) f1) (ha : s.heap.get? a = some oa)
    (hQ : ∀ hh, ZpO hh z TI TO (rawInt a) true → Heap.SameBut z s.heap hh → Q false { s with heap := hh }) : wpAny (model prog w) A (Builtin.SmallTypes.ownedTupleIsFree (.ref z)) Q E s := by
  unfold Builtin.SmallTypes.ownedTupleIsFree
  refine wpAny_bind (wpAny_field hz rfl (x := rawInt a) rfl ?_)
  show wpAny _ _ (loadIfAlive ((a : Int).toNat) >>= _) _ _ _
  rw [Int.toNat_natCast]
  refine wpAny_bind (PySem.W.kdx_alive ha ?_)
  simp only [Option.isNone_some, Bool.false_eq_true, if_false]
  refine wpAny_bind (wpAny_field hz rfl (x := .bool f1) rfl ?_)
  cases f1 with
  | true =>
    rw [if_neg (show ¬ ((Value.bool true != Value.bool true) = true) from Bool.false_ne_true)]
    exact wpAny_pure (hQ _ hz (Heap.SameBut.refl _ _))
  | false =>
    rw [if_pos (show (Value.bool false != Value.bool true) = true from rfl)]
    exact wpAny_bind (wpAny_setField_rec hz (by simp) fun h₅ he₅ hs₅ => wpAny_pure (hQ h₅ he₅ hs₅))
theorem zp_next {z TI TO i1 i2 l1 l2 : Addr} {k : Nat} {xs ys : Array Value} {x y : Value} {Q : Option Value → Shared → Prop} (D : ZipApart z TI TO i1 i2 l1 l2)
    (hz : ZpSt s.heap z TI TO) (hTI : IsPair s.heap TI (.ref i1) (.ref i2))
    (h1 : s.heap.IsListIter i1 l1 k) (h2 : s.heap.IsListIter i2 l2 k) (hl1 : s.heap.IsList l1 xs) (hl2 : s.heap.IsList l2 ys) (hx : xs[k]? = some x) (hy : ys[k]? = some y)
    (hQ : ∀ h', ZpSt h' z TI TO → h'.IsListIter i1 l1 (k + 1) → h'.IsListIter i2 l2 (k + 1) → IsPair h' s.heap.objs.size x y → h'.objs.size = s.heap.objs.size + 1 →
      (∀ c o, c ≠ z → c ≠ TO → c ≠ i1 → c ≠ i2 → s.heap.get? c = some o → h'.get? c = some o) → Q (some (.ref s.heap.objs.size)) { s with heap := h' }) :
    wpAny (model prog w) A (pyNext (.ref z)) Q E s := by
  rcases hz with ⟨hz, a, b, hTO⟩ | ⟨a, oa, f1, hz, ha⟩
  · exact wpAny_pyNext_zip_item D hz hTI hTO h1 h2 hl1 hl2 hx hy fun h' z1 z2 z3 z4 z5 z6 z7 => hQ h' (.inr ⟨s.heap.objs.size, _, false, z1, z5⟩) z3 z4 z5 z6 z7
  · have hT : s.TypeIs (.ref z) "zip" := ⟨_, hz, rfl⟩
    unfold pyNext
    refine wpAny_bind (wpAny_attempt (wpAny_callSpecial?_slot (name := Str.ofString "__next__") hT F.slot_zip_next
      (wpAny_call_entry F.slot_zip_next hT F.entry_zip_next ?_ (F.args_zip_next_1 _))))
    show wpAny _ _ (field (.ref z) 2 >>= _) _ _ _
    refine wpAny_bind (wpAny_field hz rfl (x := .bool false) rfl ?_)
    show wpAny _ _ (field (.ref z) 3 >>= _) _ _ _
    refine wpAny_bind (wpAny_field hz rfl (x := .ref TI) rfl ?_)
    refine wpAny_bind (wpAny_seqItems hTI rfl ?_)
    show wpAny _ _ (Builtin.SmallTypes.ownedTupleIsFree (.ref z) >>= _) _ _ _
    refine wpAny_bind (zp_free hz ha fun hh hz₁ hs₁ => ?_)
    simp only [Bool.false_eq_true, if_false, List.forIn_toArray, List.forIn_cons, List.forIn_nil]
    refine wpAny_bind (wpAny_bind (wpAny_bind (wpAny_holding ?_)))
    show wpAny _ _ (Builtin.SmallTypes.nextOf (.ref i1) >>= _) _ _ _
    refine wpAny_bind (wpAny_nextOf_list_item (h1.extBut hs₁.extBut D.i1z) (hl1.extBut hs₁.extBut D.l1z) hx fun h₂ h1₂ hs₂ => wpAny_pure ?_)
    refine wpAny_pure ?_
    refine wpAny_bind (wpAny_bind (wpAny_holding ?_))
    show wpAny _ _ (Builtin.SmallTypes.nextOf (.ref i2) >>= _) _ _ _
    refine wpAny_bind (wpAny_nextOf_list_item ((h2.extBut hs₁.extBut D.i2z).extBut hs₂.extBut D.i12.symm) ((hl2.extBut hs₁.extBut D.l2z).extBut hs₂.extBut D.l2i1) hy fun h₄ h2₄ hs₄ => wpAny_pure ?_)
    refine wpAny_pure (wpAny_pure ?_)
    have hsz : h₄.objs.size = s.heap.objs.size := by rw [hs₄.1, hs₂.1, hs₁.1]
    have up : ∀ c o, c ≠ z → c ≠ i1 → c ≠ i2 → s.heap.get? c = some o → h₄.get? c = some o := fun c o c1 c2 c3 e => hs₄.extBut _ _ c3 (hs₂.extBut _ _ c2 (hs₁.extBut _ _ c1 e))
    have hz₄ : ZpO h₄ z TI TO (rawInt a) true := hs₄.extBut _ _ D.i2z.symm (hs₂.extBut _ _ D.i1z.symm hz₁)
    refine wpAny_bind (wpAny_newTuple (hsz := by show 2 ≤ sizeLine; decide) ?_)
    refine wpAny_pure ⟨_, rfl, wpAny_pure ?_⟩
    show Q (some (.ref h₄.objs.size)) _
    rw [hsz]
    refine hQ _ (.inr ?_) ?_ ?_ ?_ ?_ ?_
    · have ha4 : ∃ o, h₄.get? a = some o := by
        by_cases e1 : a = z
        · rw [e1]; exact ⟨_, hz₄⟩
        · by_cases e2 : a = i1
          · obtain ⟨o, ho, _⟩ := h1₂.extBut hs₄.extBut D.i12
            rw [e2]; exact ⟨o, ho⟩
          · by_cases e3 : a = i2
            · obtain ⟨o, ho, _⟩ := h2₄
              rw [e3]; exact ⟨o, ho⟩
            · exact ⟨_, up a oa e1 e2 e3 ha⟩
      obtain ⟨o4, ho4⟩ := ha4
      exact ⟨a, o4, true, Heap.get?_push_of_some _ hz₄, Heap.get?_push_of_some _ ho4⟩
    · exact (h1₂.extBut hs₄.extBut D.i12).at fun o e => Heap.get?_push_of_some _ e
    · exact h2₄.at fun o e => Heap.get?_push_of_some _ e
    · rw [← hsz]; exact Heap.get?_push_size _ rfl
    · rw [Heap.size_push, hsz]
    · exact fun c o c1 _ c3 c4 e => Heap.get?_push_of_some _ (up c o c1 c3 c4 e)
theorem zp_end {z TI TO i1 i2 l1 l2 : Addr} {k : Nat} {xs ys : Array Value} {Q : Option Value → Shared → Prop} (hh : A.handled = none) (D : ZipApart z TI TO i1 i2 l1 l2)
    (hz : ZpSt s.heap z TI TO) (hTI : IsPair s.heap TI (.ref i1) (.ref i2))
    (h1 : s.heap.IsListIter i1 l1 k) (h2 : s.heap.IsListIter i2 l2 k) (hl1 : s.heap.IsList l1 xs) (hl2 : s.heap.IsList l2 ys) (hx : xs[k]? = none)
    (hQ : ∀ h', (∀ c o, c ≠ z → c ≠ TO → c ≠ i1 → c ≠ i2 → s.heap.get? c = some o → h'.get? c = some o) → Q none { s with heap := h' }) : wpAny (model prog w) A (pyNext (.ref z)) Q E s := by
  rcases hz with ⟨hz, a, b, hTO⟩ | ⟨a, oa, f1, hz, ha⟩
  · exact wpAny_pyNext_zip_end hh D hz hTI hTO h1 h2 hl1 hl2 (.inl hx) hQ
  · have hT : s.TypeIs (.ref z) "zip" := ⟨_, hz, rfl⟩
    unfold pyNext
    refine wpAny_bind (wpAny_attempt (wpAny_callSpecial?_slot (name := Str.ofString "__next__") hT F.slot_zip_next
      (wpAny_call_entry F.slot_zip_next hT F.entry_zip_next ?_ (F.args_zip_next_1 _))))
    show wpAny _ _ (field (.ref z) 2 >>= _) _ _ _
    refine wpAny_bind (wpAny_field hz rfl (x := .bool false) rfl ?_)
    show wpAny _ _ (field (.ref z) 3 >>= _) _ _ _
    refine wpAny_bind (wpAny_field hz rfl (x := .ref TI) rfl ?_)
    refine wpAny_bind (wpAny_seqItems hTI rfl ?_)
    show wpAny _ _ (Builtin.SmallTypes.ownedTupleIsFree (.ref z) >>= _) _ _ _
    refine wpAny_bind (zp_free hz ha fun hh' hz₁ hs₁ => ?_)
    simp only [Bool.false_eq_true, if_false, List.forIn_toArray, List.forIn_cons, List.forIn_nil]
    refine wpAny_bind (wpAny_bind (wpAny_bind (wpAny_holding ?_)))
    show wpAny _ _ (Builtin.SmallTypes.nextOf (.ref i1) >>= _) _ _ _
    refine wpAny_bind (wpAny_nextOf_list_end hh (h1.extBut hs₁.extBut D.i1z) (hl1.extBut hs₁.extBut D.l1z) hx fun h₂ e hs₂ he => ?_)
    obtain ⟨o, ho, hc⟩ := he
    refine wpAny_bind (wpAny_isInstance (T := "StopIteration") (b := true) ⟨o, ho, hc⟩ isSubtype_stop ?_)
    exact wpAny_pure (hQ _ fun c o c1 _ c3 _ q => hs₂ _ _ c3 (hs₁.extBut _ _ c1 q))
def PrsZ (base : Nat) (xs ys acc : Array Value) (h : Heap) : Prop :=
  ∀ (j : Nat) (u : Value), acc[j]? = some u → ∃ (T : Addr) (x y : Value), u = .ref T ∧ base ≤ T ∧ T < h.objs.size ∧ xs[j]? = some x ∧ ys[j]? = some y ∧ h.get? T = some { cls := .type "tuple", data := .seq #[x, y] }
/-- the tuples' places rise -/
def Ris (acc : Array Value) (n : Nat) : Prop := (∀ (j : Nat) (T : Addr), acc[j]? = some (.ref T) → T < n) ∧ ∀ (i j : Nat) (T U : Addr), i < j → acc[i]? = some (.ref T) → acc[j]? = some (.ref U) → T < U
theorem zp_loop {R : Result → Shared → Prop} {z TI TO i1 i2 l1 l2 S : Addr} {xs ys : Array Value} {base : Nat} (hh : A.handled = none) (D : ZipApart z TI TO i1 i2 l1 l2) (hne : xs.size = ys.size) (hSz : S ≠ z) (hSI : S ≠ TI) (hSO : S ≠ TO) (hS1 : S ≠ i1) (hS2 : S ≠ i2) (hl1S : l1 ≠ S) (hl2S : l2 ≠ S)
    (hbz : z < base) (hbO : TO < base) (hb1 : i1 < base) (hb2 : i2 < base) (hbS : S < base) (hn : xs.size ≤ sizeLine) (res : Value) :
    ∀ (k i : Nat) (s : Shared) (acc : Array Value) (c : Nat), xs.size - i = k → i ≤ xs.size → base ≤ s.heap.objs.size → ZpSt s.heap z TI TO → IsPair s.heap TI (.ref i1) (.ref i2) → s.heap.IsListIter i1 l1 i → s.heap.IsListIter i2 l2 i → s.heap.IsList l1 xs → s.heap.IsList l2 ys →
    s.heap.get? S = some { cls := .type "list", dict := none, data := .seq acc c, slots := #[] } → acc.size = i → PrsZ base xs ys acc s.heap → Ris acc s.heap.objs.size →
    (∀ h' acc' c', (∀ b o, b ≠ S → b ≠ z → b ≠ TO → b ≠ i1 → b ≠ i2 → s.heap.get? b = some o → h'.get? b = some o) → h'.get? S = some { cls := .type "list", dict := none, data := .seq acc' c', slots := #[] } → acc'.size = xs.size →
      (∀ (j : Nat) (u : Value), acc'[j]? = some u → ∃ (T : Addr) (x y : Value), u = .ref T ∧ base ≤ T ∧ xs[j]? = some x ∧ ys[j]? = some y ∧ h'.get? T = some { cls := .type "tuple", data := .seq #[x, y] }) → (∀ (i j : Nat) (T U : Addr), i < j → acc'[i]? = some (.ref T) → acc'[j]? = some (.ref U) → T < U) → R (.ok (.ret res)) { s with heap := h' }) →
    codeAny (model prog w) A (.builtin "list.extend.loop" ⟨[.ref S, .ref z, res], []⟩) R s := by
  intro k
  induction k with
  | zero =>
    intro i s acc c hk hi hb hz hTI h1 h2 hl1 hl2 hS hac hp hris hR
    have hin : i = xs.size := by omega
    refine codeAny_builtin F.entry_extend_loop ?_
    rw [Around.under_plainId F.plain_extend_loop _]
    show wpAny _ A.in1 (pyNext (.ref z) >>= _) _ _ s
    refine wpAny_bind (zp_end hh D hz hTI h1 h2 hl1 hl2 (Array.getElem?_eq_none (by omega)) fun h' hx => ?_)
    refine wpAny_pure (hR h' acc c (fun b o b1 b2 b3 b4 b5 q => hx b o b2 b3 b4 b5 q) (hx S _ hSz hSO hS1 hS2 hS) (by omega) (fun j u q => ?_) hris.2)
    obtain ⟨T, x, y, e1, e2, e2', e3, e4, e5⟩ := hp j u q
    exact ⟨T, x, y, e1, e2, e3, e4, hx T _ (Nat.ne_of_gt (Nat.lt_of_lt_of_le hbz e2)) (Nat.ne_of_gt (Nat.lt_of_lt_of_le hbO e2)) (Nat.ne_of_gt (Nat.lt_of_lt_of_le hb1 e2)) (Nat.ne_of_gt (Nat.lt_of_lt_of_le hb2 e2)) e5⟩
  | succ k ih =>
    intro i s acc c hk hi hb hz hTI h1 h2 hl1 hl2 hS hac hp hris hR
    have hlt : i < xs.size := by omega
    have hx : xs[i]? = some xs[i] := Array.getElem?_eq_getElem hlt
    have hy : ys[i]? = some (ys[i]'(by omega)) := Array.getElem?_eq_getElem (by omega)
    refine codeAny_builtin F.entry_extend_loop ?_
    rw [Around.under_plainId F.plain_extend_loop _]
    show wpAny _ A.in1 (pyNext (.ref z) >>= _) _ _ s
    refine wpAny_bind (zp_next D hz hTI h1 h2 hl1 hl2 hx hy fun h' hz' h1' h2' hT hsz hk' => ?_)
    have hS' : h'.get? S = some { cls := .type "list", dict := none, data := .seq acc c, slots := #[] } := hk' S _ hSz hSO hS1 hS2 hS
    show wpAny _ A.in1 (updateSeq S (·.push (.ref s.heap.objs.size)) >>= _) _ _ _
    refine wpAny_bind ?_
    have oth : ∀ b o, b ≠ S → h'.get? b = some o → (h'.update S (Obj.mapSeq (·.push (.ref s.heap.objs.size)))).get? b = some o := fun b o hb q => (Heap.get?_update_other _ _ (Ne.symm hb)).trans q
    have hszS : s.heap.objs.size ≠ S := Nat.ne_of_gt (Heap.lt_size hS)
    refine wpAny_updateSeq hS' rfl (wpAny_pure ⟨plainId_quiet F.plain_extend_loop _, ih (i + 1) _ (acc.push (.ref s.heap.objs.size)) _ (by omega) hlt ?_ ?_ ?_ ?_ ?_ ?_ ?_ (Heap.get?_update_self _ hS' rfl) (by rw [Array.size_push, hac]) ?_ ?_ ?_⟩)
      (by rw [hac]; omega) (by show (acc.push _).size ≤ sizeLine + 1; rw [Array.size_push, hac]; omega)
    · show base ≤ (h'.update S _).objs.size
      rw [Heap.size_update, hsz]; omega
    · rcases hz' with ⟨q, x, y, q2⟩ | ⟨a, oa, f1, q, q1⟩
      · exact .inl ⟨oth _ _ (Ne.symm hSz) q, x, y, oth _ _ (Ne.symm hSO) q2⟩
      · by_cases haS : a = S
        · subst haS
          exact .inr ⟨a, _, f1, oth _ _ (Ne.symm hSz) q, Heap.get?_update_self _ hS' rfl⟩
        · exact .inr ⟨a, oa, f1, oth _ _ (Ne.symm hSz) q, oth _ _ haS q1⟩
    · exact oth _ _ (Ne.symm hSI) (hk' TI _ D.TIz D.TITO D.TIi1 D.TIi2 hTI)
    · exact h1'.at fun o q => oth _ o (Ne.symm hS1) q
    · exact h2'.at fun o q => oth _ o (Ne.symm hS2) q
    · exact (hl1.at fun o q => hk' l1 o D.l1z D.l1TO D.l1i1 D.l1i2 q).at fun o q => oth _ o hl1S q
    · exact (hl2.at fun o q => hk' l2 o D.l2z D.l2TO D.l2i1 D.l2i2 q).at fun o q => oth _ o hl2S q
    · intro j u q
      have hsz2 : (h'.update S (Obj.mapSeq (·.push (.ref s.heap.objs.size)))).objs.size = s.heap.objs.size + 1 := by rw [Heap.size_update, hsz]
      by_cases hj : j = acc.size
      · subst hj
        rw [Array.getElem?_push_size] at q
        have q' := Option.some.inj q
        subst q'
        exact ⟨s.heap.objs.size, xs[i], _, rfl, hb, by show _ < (h'.update S _).objs.size; omega, by rw [hac]; exact hx, by rw [hac]; exact hy, oth _ _ hszS hT⟩
      · rw [Array.getElem?_push, if_neg hj] at q
        obtain ⟨T, x, y, e1, e2, e2', e3, e4, e5⟩ := hp j u q
        exact ⟨T, x, y, e1, e2, by show _ < (h'.update S _).objs.size; rw [hsz2]; exact Nat.lt_succ_of_lt e2', e3, e4, oth _ _ (Nat.ne_of_gt (Nat.lt_of_lt_of_le hbS e2)) (hk' T _ (Nat.ne_of_gt (Nat.lt_of_lt_of_le hbz e2)) (Nat.ne_of_gt (Nat.lt_of_lt_of_le hbO e2)) (Nat.ne_of_gt (Nat.lt_of_lt_of_le hb1 e2)) (Nat.ne_of_gt (Nat.lt_of_lt_of_le hb2 e2)) e5)⟩
    · have hsz2 : (h'.update S (Obj.mapSeq (·.push (.ref s.heap.objs.size)))).objs.size = s.heap.objs.size + 1 := by rw [Heap.size_update, hsz]
      have at1 : ∀ (j : Nat) (T : Addr), (acc.push (.ref s.heap.objs.size))[j]? = some (.ref T) → (j = acc.size ∧ T = s.heap.objs.size) ∨ (j ≠ acc.size ∧ acc[j]? = some (.ref T)) := fun j T q => by
        by_cases hj : j = acc.size
        · subst hj
          rw [Array.getElem?_push_size] at q
          have q' := Option.some.inj q
          cases q'
          exact .inl ⟨rfl, rfl⟩
        · rw [Array.getElem?_push, if_neg hj] at q
          exact .inr ⟨hj, q⟩
      refine ⟨fun j T q => ?_, fun i' j' T U hij q1 q2 => ?_⟩
      · show T < (h'.update S _).objs.size
        rcases at1 j T q with ⟨_, e⟩ | ⟨_, e⟩
        · rw [e, hsz2]; exact Nat.lt_succ_self _
        · have := hris.1 j T e
          rw [hsz2]; exact Nat.lt_succ_of_lt this
      · rcases at1 i' T q1 with ⟨a1, a2⟩ | ⟨a1, a2⟩
        · rcases at1 j' U q2 with ⟨b1, b2⟩ | ⟨b1, b2⟩
          · omega
          · have hlt' : j' < acc.size := by
              rcases Nat.lt_or_ge j' acc.size with z | z
              · exact z
              · rw [Array.getElem?_eq_none z] at b2; cases b2
            omega
        · rcases at1 j' U q2 with ⟨b1, b2⟩ | ⟨b1, b2⟩
          · rw [b2]; exact hris.1 i' T a2
          · exact hris.2 i' j' T U hij a2 b2
    · intro h'' acc' c' hk'' hS'' hsz'' hp'' hr''
      exact hR h'' acc' c' (fun b o b1 b2 b3 b4 b5 q => hk'' b o b1 b2 b3 b4 b5 (oth b o b1 (hk' b o b2 b3 b4 b5 q))) hS'' hsz'' hp'' hr''
theorem call_list_zp {Q : Value → Shared → Prop} {z TI TO i1 i2 l1 l2 : Addr} {xs ys : Array Value} (hh : A.handled = none) (D : ZipApart z TI TO i1 i2 l1 l2) (hne : xs.size = ys.size) (hz : IsZip s.heap z TI TO .none) (hTI : IsPair s.heap TI (.ref i1) (.ref i2)) (hTO : IsPair s.heap TO .none .none)
    (h1 : s.heap.IsListIter i1 l1 0) (h2 : s.heap.IsListIter i2 l2 0) (hl1 : s.heap.IsList l1 xs) (hl2 : s.heap.IsList l2 ys) (hn : xs.size ≤ sizeLine)
    (hQ : ∀ h' acc' c', (∀ b o, b ≠ z → b ≠ TO → b ≠ i1 → b ≠ i2 → s.heap.get? b = some o → h'.get? b = some o) →
      h'.get? s.heap.objs.size = some { cls := .type "list", dict := none, data := .seq acc' c', slots := #[] } → acc'.size = xs.size →
      (∀ (j : Nat) (u : Value), acc'[j]? = some u → ∃ (T : Addr) (x y : Value), u = .ref T ∧ s.heap.objs.size + 1 ≤ T ∧ xs[j]? = some x ∧ ys[j]? = some y ∧ h'.get? T = some { cls := .type "tuple", data := .seq #[x, y] }) → (∀ (i j : Nat) (T U : Addr), i < j → acc'[i]? = some (.ref T) → acc'[j]? = some (.ref U) → T < U) → Q (.ref s.heap.objs.size) { s with heap := h' }) :
    wpAny (model prog w) A (call (.type "list") [.ref z]) Q E s := by
  have lz : z < s.heap.objs.size := Heap.lt_size hz
  have lI : TI < s.heap.objs.size := Heap.lt_size hTI
  have lO : TO < s.heap.objs.size := Heap.lt_size hTO
  have li1 : i1 < s.heap.objs.size := by obtain ⟨_, q, _⟩ := h1; exact Heap.lt_size q
  have li2 : i2 < s.heap.objs.size := by obtain ⟨_, q, _⟩ := h2; exact Heap.lt_size q
  have ll1 : l1 < s.heap.objs.size := by obtain ⟨_, q, _⟩ := hl1; exact Heap.lt_size q
  have ll2 : l2 < s.heap.objs.size := by obtain ⟨_, q, _⟩ := hl2; exact Heap.lt_size q
  refine call_list_it (T := "zip") (by decide) (by decide) FF.zip_no_len FF.zip_no_hint lz (fun s2 k => ⟨_, k z _ (Nat.ne_of_lt lz) hz, rfl⟩) (fun s2 A2 E2 Q2 k q => wpAny_pyIter_zip (k z _ (Nat.ne_of_lt lz) hz) q) fun hp2 c k hsz hS => ?_
  refine zp_loop (A := A.in1) (base := s.heap.objs.size + 1) (xs := xs) (ys := ys) (l1 := l1) (l2 := l2) (TI := TI) (TO := TO) (i1 := i1) (i2 := i2) hh D hne (Nat.ne_of_gt lz) (Nat.ne_of_gt lI) (Nat.ne_of_gt lO) (Nat.ne_of_gt li1) (Nat.ne_of_gt li2) (Nat.ne_of_lt ll1) (Nat.ne_of_lt ll2)
    (Nat.lt_succ_of_lt lz) (Nat.lt_succ_of_lt lO) (Nat.lt_succ_of_lt li1) (Nat.lt_succ_of_lt li2) (Nat.lt_succ_self _) hn .none _ 0 { s with heap := hp2 } #[] c rfl (Nat.zero_le _) (by show _ ≤ hp2.objs.size; omega)
    (.inl ⟨k z _ (Nat.ne_of_lt lz) hz, _, _, k TO _ (Nat.ne_of_lt lO) hTO⟩) (k TI _ (Nat.ne_of_lt lI) hTI) (h1.at fun o q => k i1 o (Nat.ne_of_lt li1) q) (h2.at fun o q => k i2 o (Nat.ne_of_lt li2) q) (hl1.at fun o q => k l1 o (Nat.ne_of_lt ll1) q) (hl2.at fun o q => k l2 o (Nat.ne_of_lt ll2) q) hS rfl
    (fun j u q => by simp at q) ⟨fun j T q => by simp at q, fun i j T U _ q => by simp at q⟩ fun h' acc' c' k' hS' hz' hp hr => ?_
  exact ⟨rfl, hQ h' acc' c' (fun b o b1 b2 b3 b4 q => k' b o (Nat.ne_of_lt (Heap.lt_size q)) b1 b2 b3 b4 (k b o (Nat.ne_of_lt (Heap.lt_size q)) q)) hS' hz' hp hr⟩
end
/-- list(zip(a, b)), two lists of one length: a new list of new pairs -/
def tListZip (K : PySem.W.Frag) (ta : TA) : TE := fun σ H Q => ta σ H fun vs H1 => ∃ a b xs ys, vs = [.ref a, .ref b] ∧ SqL K H1 a xs ∧ SqL K H1 b ys ∧ xs.length = ys.length ∧ ∀ (H' : Hp) (l : Addr) (ts : List Addr), Same H1 H' → H1 l = none → H' l = some (.lst (ts.map V.ref)) → ts.length = xs.length →
  (∀ (j : Nat) (t : Addr), ts[j]? = some t → H' t = some (.tup [xs.getD j .non, ys.getD j .non])) → Q (.ref l) H'
theorem pe_list_zip {X : Cx} {e e2 : Expr} {ta : TA} {p p' pos pos' : Pos} (hc : X.calm = true) (hg : Gl X "list") (hm : X.mg "list" = none) (hg' : Gl X "zip") (hm' : X.mg "zip" = none) (ha : PA X [e, e2] ta) (hs : starEach [e, e2] X.env = (false, eval e X.env) :: starEach [e2] X.env := by rfl) (hpl : (backTo pos' (starEach [e2] X.env)).any (·.1) = false := by rfl)
    (hs2 : starEach [.Call (.Name "zip" p') [e, e2] [] pos'] X.env = [(false, eval (.Call (.Name "zip" p') [e, e2] [] pos') X.env)] := by rfl) :
    PE X (.Call (.Name "list" p) [.Call (.Name "zip" p') [e, e2] [] pos'] [] pos) (tListZip X.K ta) := by
  intro pins s σ H Q I h
  refine Call_ (ld_blt I hg hm boot_list_ty (PyProof.Rows.callWith_type1 ?_ hs2 rfl))
  rw [hs2]
  show wpAny _ _ (spliced ((false, eval (.Call (.Name "zip" p') [e, e2] [] pos') X.env) :: backTo pos (starEach [] X.env))) _ _ s
  refine Calls.spliced_cons ?_
  refine Call_ (ld_blt I hg' hm' boot_zip5 (PyProof.Rows.callWith_type1 (thn (ha pos' pins s σ H _ I h) fun us s1 ⟨vs, H1, I1, r1, q1⟩ => ?_) hs hpl))
  obtain ⟨a, b, xs, ys, ex, hqx, hqy, hlen, q⟩ := q1
  subst ex
  cases r1 with
  | cons r rr =>
    cases rr with
    | cons r' rr =>
      cases rr
      cases r
      cases r'
      obtain ⟨its, rv, p1, hz1⟩ := I1.list hqx
      obtain ⟨its2, rv2, p2, hz2⟩ := I1.list hqy
      have hal : a < s1.heap.objs.size := by obtain ⟨_, z, _⟩ := p1.isList; exact Heap.lt_size z
      have hbl : b < s1.heap.objs.size := by obtain ⟨_, z, _⟩ := p2.isList; exact Heap.lt_size z
      have e1 := rv.length
      have e2 := rv2.length
      refine call_zip_2 p1.isList p2.isList fun h' hz hTI hTO hi1 hi2 hsz hk => Calls.spliced_nil ?_
      have D : ZipApart (s1.heap.objs.size + 4) (s1.heap.objs.size + 2) (s1.heap.objs.size + 3) s1.heap.objs.size (s1.heap.objs.size + 1) a b := by
        have ga : ∀ n, a ≠ s1.heap.objs.size + n := fun n => Nat.ne_of_lt (Nat.lt_of_lt_of_le hal (Nat.le_add_right _ _))
        have gb : ∀ n, b ≠ s1.heap.objs.size + n := fun n => Nat.ne_of_lt (Nat.lt_of_lt_of_le hbl (Nat.le_add_right _ _))
        have nn : ∀ (m n : Nat), m ≠ n → s1.heap.objs.size + m ≠ s1.heap.objs.size + n := fun m n h z => h (Nat.add_left_cancel z)
        exact ⟨nn 2 4 (by decide), nn 3 4 (by decide), nn 0 4 (by decide), nn 1 4 (by decide), nn 2 3 (by decide), nn 2 0 (by decide), nn 2 1 (by decide), nn 3 0 (by decide), nn 3 1 (by decide), nn 0 1 (by decide), ga 4, ga 3, ga 0, ga 1, gb 4, gb 3, gb 0, gb 1⟩
      refine call_list_zp (s := { s1 with heap := h' }) (xs := its.toArray) (ys := its2.toArray) (I1.ok.hd hc) D (by rw [List.size_toArray, List.size_toArray]; omega) hz hTI hTO hi1 hi2 (p1.isList.at fun o z => hk a o z) (p2.isList.at fun o z => hk b o z) (by rw [List.size_toArray]; omega) fun h'' acc c k2 hS hsz2 hp hr => ?_
      have hS1 : s1.heap.objs.size ≤ h'.objs.size := by rw [hsz]; exact Nat.le_add_right _ _
      obtain ⟨H', ts, I', sm, nl, hl', tl, fr, ct⟩ := I1.newPairs (t' := s1.toks) (h' := h'') (S := h'.objs.size) (acc := acc) (f := fun j => [xs.getD j .non, ys.getD j .non])
        (fun c u z => by
          have hlt := Heap.lt_size z
          exact k2 c u (Nat.ne_of_lt (Nat.lt_of_lt_of_le hlt (Nat.le_add_right _ _))) (Nat.ne_of_lt (Nat.lt_of_lt_of_le hlt (Nat.le_add_right _ _))) (Nat.ne_of_lt hlt) (Nat.ne_of_lt (Nat.lt_of_lt_of_le hlt (Nat.le_add_right _ _))) (hk c u z)) hS1 hS (by rw [hsz2, List.size_toArray]; omega)
        (fun j u z => by
          obtain ⟨T, x, y, a1, a2, a3, a4, a5⟩ := hp j u z
          rw [List.getElem?_toArray] at a3 a4
          have hjl : j < xs.length := by rw [e1]; exact (List.getElem?_eq_some_iff.mp a3).1
          have hjl2 : j < ys.length := by omega
          obtain ⟨x', ex', rx⟩ := rv.get (x := xs[j]) (i := j) (by simp [hjl])
          obtain ⟨y', ey', ry⟩ := rv2.get (x := ys[j]) (i := j) (by simp [hjl2])
          rw [a3] at ex'
          cases ex'
          rw [a4] at ey'
          cases ey'
          refine ⟨T, [x, y], a1, a2, .cons ?_ (.cons ?_ .nil), Nat.le_refl _, a5⟩
          · simpa [hjl] using rx
          · simpa [hjl2] using ry)
        (fun i j T z1 z2 => by
          rcases Nat.lt_trichotomy i j with w | w | w
          · exact absurd (hr i j T T w z1 z2) (Nat.lt_irrefl _)
          · exact w
          · exact absurd (hr j i T T w z2 z1) (Nat.lt_irrefl _))
      exact ⟨.ref h'.objs.size, H', I', rfl, q H' h'.objs.size ts sm nl hl' (by rw [tl, hsz2, List.size_toArray, e1]) ct⟩
section
variable {prog : Program} {w : World} {A : Around} {E : Value → Shared → Prop} {s : Shared}
end
end L2

set_option Elab.async false
set_option linter.all false
set_option maxRecDepth 100000
set_option maxHeartbeats 4000000
namespace L2
open PySem PySem.Spec PyProof.Rows
abbrev vl (ns : List Int) (i : Nat) : Int := ns.getD i 0
structure IsReach (ns : List Int) (i b e : Nat) : Prop where
  bi : b ≤ i
  ie : i < e
  en : e ≤ ns.length
  bg : ∀ j, b ≤ j → j < i → vl ns i < vl ns j
  b0 : b = 0 ∨ vl ns (b - 1) ≤ vl ns i
  eg : ∀ j, i ≤ j → j < e → vl ns i ≤ vl ns j
  e0 : e = ns.length ∨ vl ns e < vl ns i
theorem IsReach.uniq {ns : List Int} {i b e b' e' : Nat} (h : IsReach ns i b e) (h' : IsReach ns i b' e') : b = b' ∧ e = e' := by
  constructor
  · rcases Nat.lt_trichotomy b b' with z | z | z
    · rcases h'.b0 with q | q
      · omega
      · have := h.bg (b' - 1) (by omega) (by have := h'.bi; omega)
        omega
    · exact z
    · rcases h.b0 with q | q
      · omega
      · have := h'.bg (b - 1) (by omega) (by have := h.bi; omega)
        omega
  · rcases Nat.lt_trichotomy e e' with z | z | z
    · rcases h.e0 with q | q
      · have := h'.en; omega
      · have := h'.eg e (by have := h.ie; omega) z
        omega
    · exact z
    · rcases h'.e0 with q | q
      · have := h.en; omega
      · have := h.eg e' (by have := h'.ie; omega) z
        omega
/-- the reaches of all places -/
def AreReaches (ns : List Int) (ps : List (Int × Int)) : Prop := ps.length = ns.length ∧ ∀ (i : Nat) (p : Int × Int), ps[i]? = some p → ∃ b e : Nat, p = ((b : Int), (e : Int)) ∧ IsReach ns i b e
theorem AreReaches.uniq {ns : List Int} {ps qs : List (Int × Int)} (h : AreReaches ns ps) (h' : AreReaches ns qs) : ps = qs := by
  apply List.ext_getElem?
  intro i
  by_cases hi : i < ns.length
  · have hp : ps[i]? = some (ps[i]'(by rw [h.1]; exact hi)) := List.getElem?_eq_getElem _
    have hq : qs[i]? = some (qs[i]'(by rw [h'.1]; exact hi)) := List.getElem?_eq_getElem _
    obtain ⟨b, e, e1, r⟩ := h.2 i _ hp
    obtain ⟨b', e', e1', r'⟩ := h'.2 i _ hq
    obtain ⟨z1, z2⟩ := r.uniq r'
    rw [hp, hq, e1, e1', z1, z2]
  · rw [List.getElem?_eq_none (by rw [h.1]; omega), List.getElem?_eq_none (by rw [h'.1]; omega)]
structure Stk (ns : List Int) (m : Nat) (top : Nat) (ws es : List Nat) : Prop where
  lenE : es.length = ns.length
  mn : m ≤ ns.length
  inc : ws.Pairwise (· < ·)
  lt : ∀ j ∈ ws, j < m
  gone : ∀ j, j < m → j ∉ ws → ∃ k, es[j]? = some k ∧ j < k ∧ k < top ∧ vl ns k < vl ns j ∧ ∀ i, j ≤ i → i < k → vl ns j ≤ vl ns i
  wait : ∀ j ∈ ws, es[j]? = some ns.length ∧ ∀ i, j ≤ i → i < m → vl ns j ≤ vl ns i
  rest : ∀ j, m ≤ j → j < ns.length → es[j]? = some ns.length
theorem Stk.start (ns : List Int) : Stk ns 0 0 [] (List.replicate ns.length ns.length) where
  lenE := List.length_replicate
  mn := Nat.zero_le _
  inc := .nil
  lt := fun j hj => nomatch hj
  gone := fun j hj => absurd hj (Nat.not_lt_zero _)
  wait := fun j hj => nomatch hj
  rest := fun j _ hj => by rw [List.getElem?_replicate, if_pos hj]
theorem Stk.mono {ns : List Int} {m t t' : Nat} {ws es : List Nat} (h : Stk ns m t ws es) (ht : t ≤ t') : Stk ns m t' ws es :=
  ⟨h.lenE, h.mn, h.inc, h.lt, fun j hj hn => by obtain ⟨k, a, b, c, d⟩ := h.gone j hj hn; exact ⟨k, a, b, by omega, d⟩, h.wait, h.rest⟩
/-- a waiting place that is greater than the number at m goes -/
theorem Stk.pop {ns : List Int} {m w : Nat} {ws es : List Nat} (h : Stk ns m (m + 1) (ws ++ [w]) es) (hm : m < ns.length) (hv : vl ns m < vl ns w) : Stk ns m (m + 1) ws (es.set w m) := by
  have hinc := List.pairwise_append.mp h.inc
  have hwm := h.lt w (by simp)
  have hwE : w < es.length := by rw [h.lenE]; omega
  refine ⟨by rw [List.length_set]; exact h.lenE, h.mn, hinc.1, fun j hj => h.lt j (by simp [hj]), fun j hj hn => ?_, fun j hj => ?_, fun j hj hl => ?_⟩
  · by_cases e : j = w
    · subst e
      refine ⟨m, by rw [List.getElem?_set_self hwE], hj, Nat.lt_succ_self _, hv, (h.wait j (by simp)).2⟩
    · obtain ⟨k, a, r⟩ := h.gone j hj (by simp [hn, e])
      exact ⟨k, by rw [List.getElem?_set_ne (fun z => e z.symm)]; exact a, r⟩
  · have hlt := hinc.2.2 j hj w (by simp)
    obtain ⟨a, b⟩ := h.wait j (by simp [hj])
    exact ⟨by rw [List.getElem?_set_ne (by omega)]; exact a, b⟩
  · rw [List.getElem?_set_ne (by omega)]; exact h.rest j hj hl
/-- where the reach of m begins -/
def bgn (ws : List Nat) : Nat := match ws.getLast? with | some w => w + 1 | none => 0
theorem Stk.beg {ns : List Int} {m : Nat} {ws es : List Nat} (h : Stk ns m (m + 1) ws es) (hm : m < ns.length) (hv : ∀ w, ws.getLast? = some w → vl ns w ≤ vl ns m) :
    bgn ws ≤ m ∧ (∀ j, bgn ws ≤ j → j < m → vl ns m < vl ns j) ∧ (bgn ws = 0 ∨ vl ns (bgn ws - 1) ≤ vl ns m) := by
  have hb : bgn ws ≤ m ∧ (∀ j, bgn ws ≤ j → j ∉ ws) ∧ (bgn ws = 0 ∨ vl ns (bgn ws - 1) ≤ vl ns m) := by
    cases e : ws.getLast? with
    | none =>
      have : ws = [] := List.getLast?_eq_none_iff.mp e
      have eb : bgn ws = 0 := by unfold bgn; rw [e]
      rw [eb]
      exact ⟨Nat.zero_le _, fun j _ => by rw [this]; simp, .inl rfl⟩
    | some w =>
      have eb : bgn ws = w + 1 := by unfold bgn; rw [e]
      obtain ⟨ys, hys⟩ := List.getLast?_eq_some_iff.mp e
      have hw : w ∈ ws := by rw [hys]; simp
      have hwm := h.lt w hw
      rw [eb]
      refine ⟨hwm, fun j hj hm' => ?_, .inr (by simpa using hv w e)⟩
      rw [hys] at hm'
      rcases List.mem_append.mp hm' with z | z
      · have hi := h.inc
        rw [hys] at hi
        have := (List.pairwise_append.mp hi).2.2 j z w (by simp)
        omega
      · have : j = w := by simpa using z
        omega
  refine ⟨hb.1, ?_, hb.2.2⟩
  have key : ∀ (d j : Nat), m - j ≤ d → bgn ws ≤ j → j < m → vl ns m < vl ns j := by
    intro d
    induction d with
    | zero => intro j hd _ hj; omega
    | succ d ih =>
      intro j hd hj1 hj2
      obtain ⟨k, _, hk1, hk2, hk3, _⟩ := h.gone j hj2 (hb.2.1 j hj1)
      by_cases e : k = m
      · rw [← e]; exact hk3
      · have := ih k (by omega) (by omega) (by omega)
        omega
  exact fun j => key (m - j) j (Nat.le_refl _)
/-- m waits -/
theorem Stk.push {ns : List Int} {m : Nat} {ws es : List Nat} (h : Stk ns m (m + 1) ws es) (hm : m < ns.length) (hv : ∀ w, ws.getLast? = some w → vl ns w ≤ vl ns m) : Stk ns (m + 1) (m + 1) (ws ++ [m]) es := by
  refine ⟨h.lenE, hm, ?_, fun j hj => ?_, fun j hj hn => ?_, fun j hj => ?_, fun j hj hl => h.rest j (by omega) hl⟩
  · exact List.pairwise_append.mpr ⟨h.inc, List.pairwise_singleton _ _, fun a ha b hb => by
      have h1 := h.lt a ha
      have h2 : b = m := (by simpa using hb)
      omega⟩
  · rcases List.mem_append.mp hj with z | z
    · have := h.lt j z; omega
    · have : j = m := by simpa using z
      omega
  · have hn' : j ∉ ws ∧ j ≠ m := by simpa using hn
    exact h.gone j (by omega) hn'.1
  · rcases List.mem_append.mp hj with z | z
    · obtain ⟨a, b⟩ := h.wait j z
      refine ⟨a, fun i h1 h2 => ?_⟩
      rcases Nat.lt_succ_iff_lt_or_eq.mp h2 with q | q
      · exact b i h1 q
      · subst q
        cases e : ws.getLast? with
        | none => rw [List.getLast?_eq_none_iff.mp e] at z; cases z
        | some w =>
          have hw := hv w e
          obtain ⟨ys, hys⟩ := List.getLast?_eq_some_iff.mp e
          have hjw : j ≤ w := by
            rw [hys] at z
            rcases List.mem_append.mp z with q | q
            · have hi := h.inc
              rw [hys] at hi
              have := (List.pairwise_append.mp hi).2.2 j q w (by simp)
              omega
            · have : j = w := by simpa using q
              omega
          have hwm := h.lt w (by rw [hys]; simp)
          have := b w hjw hwm
          omega
    · have : j = m := by simpa using z
      subst this
      exact ⟨h.rest j (Nat.le_refl _) hm, fun i h1 h2 => by
        have e : i = j := (by omega)
        rw [e]; exact Int.le_refl _⟩
/-- the begins so far -/
def Begs (ns : List Int) (bs : List Nat) : Prop := ∀ (i b : Nat), bs[i]? = some b → b ≤ i ∧ (∀ j, b ≤ j → j < i → vl ns i < vl ns j) ∧ (b = 0 ∨ vl ns (b - 1) ≤ vl ns i)
theorem Begs.snoc {ns : List Int} {bs : List Nat} {b : Nat} (h : Begs ns bs) (hb : b ≤ bs.length ∧ (∀ j, b ≤ j → j < bs.length → vl ns bs.length < vl ns j) ∧ (b = 0 ∨ vl ns (b - 1) ≤ vl ns bs.length)) : Begs ns (bs ++ [b]) := by
  intro i c hc
  by_cases hi : i < bs.length
  · rw [List.getElem?_append_left hi] at hc
    exact h i c hc
  · rw [List.getElem?_append_right (by omega)] at hc
    have hi' : i - bs.length = 0 := by
      rcases Nat.eq_zero_or_pos (i - bs.length) with z | z
      · exact z
      · rw [List.getElem?_eq_none (by simp; omega)] at hc; cases hc
    rw [hi'] at hc
    have : b = c := by simpa using hc
    have hi2 : i = bs.length := by omega
    subst this hi2
    exact hb
theorem reaches_done {ns : List Int} {bs ws es : List Nat} (hb : Begs ns bs) (hl : bs.length = ns.length) (h : Stk ns ns.length ns.length ws es) : AreReaches ns (List.zipWith (fun (b e : Nat) => ((b : Int), (e : Int))) bs es) := by
  refine ⟨by rw [List.length_zipWith, hl, h.lenE]; exact Nat.min_self _, fun i p hp => ?_⟩
  rw [List.getElem?_zipWith] at hp
  cases e1 : bs[i]? with
  | none => rw [e1] at hp; simp at hp
  | some b =>
    cases e2 : es[i]? with
    | none => rw [e1, e2] at hp; simp at hp
    | some e =>
      rw [e1, e2] at hp
      have hp' : ((b : Int), (e : Int)) = p := by simpa using hp
      have hi : i < ns.length := by rw [← hl]; exact (List.getElem?_eq_some_iff.mp e1).1
      obtain ⟨b1, b2, b3⟩ := hb i b e1
      refine ⟨b, e, hp'.symm, ?_⟩
      by_cases hw : i ∈ ws
      · obtain ⟨w1, w2⟩ := h.wait i hw
        rw [e2] at w1
        have : e = ns.length := Option.some.inj w1
        subst this
        exact ⟨b1, hi, Nat.le_refl _, b2, b3, w2, .inl rfl⟩
      · obtain ⟨k, g1, g2, g3, g4, g5⟩ := h.gone i hi hw
        rw [e2] at g1
        have : e = k := Option.some.inj g1
        subst this
        exact ⟨b1, g2, by omega, b2, b3, g5, .inr g4⟩
abbrev nV (j : Nat) : V := .int (j : Int)
def PrAt (H : Hp) (ts : List Addr) (ps : List (Int × Int)) : Prop := ts.length = ps.length ∧ ∀ (j : Nat) (t : Addr) (p : Int × Int), ts[j]? = some t → ps[j]? = some p → H t = some (.tup [.int p.1, .int p.2])
theorem PrAt.same {H H' : Hp} {ts : List Addr} {ps : List (Int × Int)} (h : PrAt H ts ps) (s : Same H H') : PrAt H' ts ps := ⟨h.1, fun j t p h1 h2 => s _ _ (h.2 j t p h1 h2)⟩
theorem PrAt.at {H : Hp} {ts : List Addr} {ps : List (Int × Int)} {D : Addr} {xs ys : List V} (h : PrAt H ts ps) (hD : H D = some (.lst xs)) : PrAt (L2.upd H D (.lst ys)) ts ps := ⟨h.1, fun j t p h1 h2 => by
  have c := h.2 j t p h1 h2
  rw [upd_ne fun z => by rw [z, hD] at c; cases c]
  exact c⟩
theorem PrAt.but {H H' : Hp} {p : Addr} {ts : List Addr} {ps : List (Int × Int)} (h : PrAt H ts ps) (k : But p H H') (hh : Hand H p) : PrAt H' ts ps := ⟨h.1, fun j t q h1 h2 => by
  have c := h.2 j t q h1 h2
  refine k _ _ (fun z => ?_) c
  obtain ⟨d, e', hp, _⟩ := hh
  rw [z, hp] at c; cases c⟩
theorem PrAt.dpAll {K : PySem.W.Frag} {H : Hp} : ∀ {ts : List Addr} {ps : List (Int × Int)}, PrAt H ts ps → DpAll K H (ts.map V.ref) (ps.map prD)
  | [], [], _ => .nil
  | [], _ :: _, h => by have := h.1; simp at this
  | _ :: _, [], h => by have := h.1; simp at this
  | t :: ts, p :: ps, h => by
    have c := h.2 0 t p rfl rfl
    refine .cons (.tup (SqT.of c) (.cons (.int _) (.cons (.int _) .nil))) (PrAt.dpAll (ts := ts) (ps := ps) ⟨by have := h.1; simpa using this, fun j t' p' h1 h2 => h.2 (j + 1) t' p' (by simpa using h1) (by simpa using h2)⟩)
theorem PrAt.dp {K : PySem.W.Frag} {H : Hp} {a : Addr} {ts : List Addr} {ps : List (Int × Int)} (h : PrAt H ts ps) (ha : SqL K H a (ts.map V.ref)) : Dp K H (.ref a) (prsD ps) := .lst ha h.dpAll
theorem flat_one {α : Type} (k : Nat) (x : α) : (List.replicate k [x]).flatten = List.replicate k x := by
  induction k with
  | zero => rfl
  | succ k ih => rw [List.replicate_succ, List.flatten_cons, ih]; rfl
theorem Same.at {D : Addr} {H H' : Hp} {o : HO} (s : Same H H') (f : H D = none) : Same H (L2.upd H' D o) := fun b u e => by
  rw [upd_ne (ne_of_none e f)]; exact s b u e
theorem at_vl {ns : List Int} {i : Nat} (h : i < ns.length) : atI (ns.map V.int) ((i : Nat) : Int) = some (V.int (vl ns i)) := by
  have := at_int (ns := ns) (i := (i : Int)) (by omega) (by omega)
  simpa using this
theorem get_vl {ns : List Int} {i : Nat} {n : Int} (h : ns[i]? = some n) : n = vl ns i := by
  unfold vl
  rw [List.getD_eq_getElem?_getD, h]
  rfl
end L2

set_option Elab.async false
set_option linter.all false
set_option maxRecDepth 100000
set_option maxHeartbeats 4000000
namespace L2
open PySem PySem.Spec PyProof.Rows
def sumN : Nat → (Nat → Int) → Int
  | 0, _ => 0
  | n + 1, g => sumN n g + g n
theorem sumN_congr : ∀ {n : Nat} {g h : Nat → Int}, (∀ i, i < n → g i = h i) → sumN n g = sumN n h
  | 0, _, _, _ => rfl
  | n + 1, g, h, e => by
    show sumN n g + g n = sumN n h + h n
    rw [sumN_congr fun i hi => e i (by omega), e n (by omega)]
theorem sumN_zero : ∀ (n : Nat), sumN n (fun _ => 0) = 0
  | 0 => rfl
  | n + 1 => by show sumN n _ + 0 = 0; rw [sumN_zero n]; rfl
theorem sumN_add : ∀ (n : Nat) (g h : Nat → Int), sumN n (fun i => g i + h i) = sumN n g + sumN n h
  | 0, _, _ => rfl
  | n + 1, g, h => by
    show sumN n _ + (g n + h n) = (sumN n g + g n) + (sumN n h + h n)
    rw [sumN_add n g h]; omega
theorem sumN_mul : ∀ (n : Nat) (c : Int) (g : Nat → Int), sumN n (fun i => c * g i) = c * sumN n g
  | 0, c, _ => by show (0 : Int) = c * 0; simp
  | n + 1, c, g => by
    show sumN n _ + c * g n = c * (sumN n g + g n)
    rw [sumN_mul n c g, Int.mul_add]
theorem sumN_comm : ∀ (n m : Nat) (g : Nat → Nat → Int), sumN n (fun i => sumN m (fun j => g i j)) = sumN m (fun j => sumN n (fun i => g i j))
  | 0, m, g => by show (0 : Int) = sumN m fun _ => 0; rw [sumN_zero]
  | n + 1, m, g => by
    show sumN n _ + sumN m (fun j => g n j) = sumN m (fun j => sumN n (fun i => g i j) + g n j)
    rw [sumN_add, sumN_comm n m g]
theorem sumN_one {n k : Nat} (hk : k < n) (c : Nat → Int) : sumN n (fun i => if i = k then c i else 0) = c k := by
  induction n with
  | zero => omega
  | succ n ih =>
    show sumN n (fun i => if i = k then c i else 0) + (if n = k then c n else 0) = c k
    by_cases e : n = k
    · subst e
      rw [if_pos rfl, sumN_congr (h := fun _ => 0) fun i hi => if_neg (by omega), sumN_zero]
      omega
    · rw [if_neg e, ih (by omega)]; omega
theorem sumN_between {n lo hi : Nat} (h1 : lo ≤ hi) (h2 : hi ≤ n) : sumN n (fun i => if lo ≤ i ∧ i < hi then 1 else 0) = (hi : Int) - lo := by
  induction n with
  | zero => show (0 : Int) = _; omega
  | succ n ih =>
    show sumN n (fun i => if lo ≤ i ∧ i < hi then 1 else 0) + (if lo ≤ n ∧ n < hi then 1 else 0) = _
    by_cases e : hi ≤ n
    · rw [ih e, if_neg (by omega)]; omega
    · have eh : hi = n + 1 := by omega
      have hc : sumN n (fun i => if lo ≤ i ∧ i < hi then 1 else 0) = sumN n (fun i => if lo ≤ i ∧ i < n then 1 else 0) := sumN_congr fun i hi' => by
        by_cases q : lo ≤ i
        · rw [if_pos ⟨q, by omega⟩, if_pos ⟨q, hi'⟩]
        · rw [if_neg (fun z => q z.1), if_neg (fun z => q z.1)]
      by_cases q : lo ≤ n
      · have : sumN n (fun i => if lo ≤ i ∧ i < n then 1 else 0) = (n : Int) - lo := by
          clear ih hc
          have go : ∀ m, lo ≤ m → sumN m (fun i => if lo ≤ i ∧ i < m then 1 else 0) = (m : Int) - lo := by
            intro m
            induction m with
            | zero => intro h; show (0 : Int) = _; omega
            | succ m ihm =>
              intro h
              show sumN m (fun i => if lo ≤ i ∧ i < m + 1 then 1 else 0) + (if lo ≤ m ∧ m < m + 1 then 1 else 0) = _
              by_cases q2 : lo ≤ m
              · rw [sumN_congr (h := fun i => if lo ≤ i ∧ i < m then 1 else 0) fun i hi' => by
                  by_cases q3 : lo ≤ i
                  · rw [if_pos ⟨q3, by omega⟩, if_pos ⟨q3, hi'⟩]
                  · rw [if_neg (fun z => q3 z.1), if_neg (fun z => q3 z.1)]]
                rw [ihm q2, if_pos ⟨q2, by omega⟩]; omega
              · rw [sumN_congr (h := fun _ => 0) fun i hi' => if_neg (by omega), sumN_zero, if_neg (by omega)]; omega
          exact go n q
        rw [hc, this, if_pos ⟨q, by omega⟩]; omega
      · have : sumN n (fun i => if lo ≤ i ∧ i < hi then 1 else 0) = 0 := by
          rw [sumN_congr (h := fun _ => 0) fun i hi' => if_neg (by omega), sumN_zero]
        rw [this, if_neg (by omega)]; omega
theorem holder {ns : List Int} {i bi ei b e : Nat} (h : IsReach ns i bi ei) (hb : b ≤ i) (he : i < e) (hn : e ≤ ns.length) :
    (bi ≤ b ∧ e ≤ ei) ↔ i = b + pl (seg ns (b : Int) (e : Int)) := by
  have st : IsSt ns.length (b : Int) (e : Int) := ⟨by omega, by omega, by omega⟩
  have sl := seg_len st
  have sg : ∀ j, j < e - b → (seg ns (b : Int) (e : Int))[j]? = some (vl ns (b + j)) := fun j hj => by
    rw [seg_get (by omega) (by omega)]
    have : (b : Int).toNat + j = b + j := by omega
    rw [this]
    unfold vl
    rw [List.getD_eq_getElem?_getD, List.getElem?_eq_getElem (by omega)]
    rfl
  constructor
  · rintro ⟨h1, h2⟩
    have hi : (seg ns (b : Int) (e : Int))[i - b]? = some (vl ns i) := by
      rw [sg (i - b) (by omega)]; congr 2; omega
    have hmin : minL (seg ns (b : Int) (e : Int)) = vl ns i := minL_uniq (List.mem_of_getElem? hi) fun y hy => by
      obtain ⟨j, hj⟩ := List.getElem?_of_mem hy
      have hjl : j < e - b := by have := (List.getElem?_eq_some_iff.mp hj).1; omega
      rw [sg j hjl] at hj
      have : vl ns (b + j) = y := Option.some.inj hj
      rw [← this]
      by_cases q : b + j < i
      · have := h.bg (b + j) (by omega) q; omega
      · exact h.eg (b + j) (by omega) (by omega)
    have hp : pl (seg ns (b : Int) (e : Int)) = i - b := by
      unfold pl
      rw [hmin]
      refine fst_uniq hi fun m z hm hz => ?_
      rw [sg m (by omega)] at hz
      have : vl ns (b + m) = z := Option.some.inj hz
      have := h.bg (b + m) (by omega) (by omega)
      omega
    omega
  · intro hp
    obtain ⟨f1, f2, f3⟩ := fst_at (minL_spec (seg_ne st)).1
    have hpl : pl (seg ns (b : Int) (e : Int)) = i - b := by omega
    unfold pl at hpl
    rw [hpl] at f1 f3
    have hmin : minL (seg ns (b : Int) (e : Int)) = vl ns i := by
      rw [sg (i - b) (by omega)] at f1
      have := Option.some.inj f1
      rw [← this]; congr 1; omega
    have all := (minL_spec (seg_ne st)).2
    rw [hmin] at all f3
    have ge : ∀ j, b ≤ j → j < e → vl ns i ≤ vl ns j := fun j h1 h2 => all _ (List.mem_of_getElem? (by rw [sg (j - b) (by omega)]; congr 2; omega))
    have gt : ∀ j, b ≤ j → j < i → vl ns i < vl ns j := fun j h1 h2 => by
      have := ge j h1 (by omega)
      have := f3 (j - b) (vl ns j) (by omega) (by rw [sg (j - b) (by omega)]; congr 2; omega)
      omega
    constructor
    · rcases h.b0 with q | q
      · omega
      · rcases Nat.lt_or_ge b bi with z | z
        · have := gt (bi - 1) (by omega) (by have := h.bi; omega); omega
        · exact z
    · rcases h.e0 with q | q
      · omega
      · rcases Nat.lt_or_ge ei e with z | z
        · have := ge ei (by have := h.ie; omega) z; omega
        · exact z
/-- the sum over all stretches of f at the first least place -/
def overSt (ns : List Int) (f : Nat → Int) : Int := sumN ns.length fun b => sumN ns.length fun e => if b ≤ e then f (b + pl (seg ns (b : Int) ((e + 1 : Nat) : Int))) else 0
theorem overSt_reaches {ns : List Int} {rb re : Nat → Nat} (h : ∀ i, i < ns.length → IsReach ns i (rb i) (re i)) (f : Nat → Int) :
    overSt ns f = sumN ns.length fun i => f i * (((i : Int) - rb i + 1) * ((re i : Int) - i)) := by
  unfold overSt
  have h1 : ∀ b, b < ns.length → ∀ e, e < ns.length → (if b ≤ e then f (b + pl (seg ns (b : Int) ((e + 1 : Nat) : Int))) else 0) = sumN ns.length fun i => if (rb i ≤ b ∧ b < i + 1) ∧ (i ≤ e ∧ e < re i) then f i else 0 := by
    intro b hb e he
    by_cases q : b ≤ e
    · rw [if_pos q]
      have st : IsSt ns.length (b : Int) ((e + 1 : Nat) : Int) := ⟨by omega, by omega, by omega⟩
      obtain ⟨f1, f2, f3⟩ := fst_at (minL_spec (seg_ne st)).1
      have sl := seg_len st
      have hpl : pl (seg ns (b : Int) ((e + 1 : Nat) : Int)) < e + 1 - b := by unfold pl; omega
      have hk : b + pl (seg ns (b : Int) ((e + 1 : Nat) : Int)) < ns.length := by omega
      rw [sumN_congr (h := fun i => if i = b + pl (seg ns (b : Int) ((e + 1 : Nat) : Int)) then f i else 0) fun i hi => ?_, sumN_one hk]
      by_cases z : i = b + pl (seg ns (b : Int) ((e + 1 : Nat) : Int))
      · have := (holder (h i hi) (b := b) (e := e + 1) (by omega) (by omega) (by omega)).mpr z
        rw [if_pos z, if_pos ⟨⟨this.1, by omega⟩, ⟨by omega, by omega⟩⟩]
      · rw [if_neg z, if_neg]
        rintro ⟨⟨a1, a2⟩, ⟨a3, a4⟩⟩
        exact z ((holder (h i hi) (b := b) (e := e + 1) (by omega) (by omega) (by omega)).mp ⟨a1, by omega⟩)
    · rw [if_neg q, sumN_congr (h := fun _ => 0) fun i hi => if_neg (by omega), sumN_zero]
  rw [sumN_congr fun b hb => sumN_congr fun e he => h1 b hb e he]
  rw [sumN_congr (h := fun b => sumN ns.length fun i => sumN ns.length fun e => if (rb i ≤ b ∧ b < i + 1) ∧ (i ≤ e ∧ e < re i) then f i else 0) fun b hb => sumN_comm _ _ _]
  rw [sumN_comm]
  refine sumN_congr fun i hi => ?_
  have hr := h i hi
  have hbi := hr.bi; have hie := hr.ie; have hen := hr.en
  have h2 : ∀ b, b < ns.length → (sumN ns.length fun e => if (rb i ≤ b ∧ b < i + 1) ∧ (i ≤ e ∧ e < re i) then f i else 0) = (f i * ((re i : Int) - i)) * (if rb i ≤ b ∧ b < i + 1 then 1 else 0) := by
    intro b hb
    by_cases q : rb i ≤ b ∧ b < i + 1
    · rw [if_pos q, sumN_congr (h := fun e => f i * (if i ≤ e ∧ e < re i then 1 else 0)) fun e he => ?_, sumN_mul, sumN_between (by omega) hen, Int.mul_one]
      by_cases z : i ≤ e ∧ e < re i
      · rw [if_pos ⟨q, z⟩, if_pos z, Int.mul_one]
      · rw [if_neg (fun y => z y.2), if_neg z, Int.mul_zero]
    · rw [if_neg q, sumN_congr (h := fun _ => 0) fun e he => if_neg (fun y => q y.1), sumN_zero, Int.mul_zero]
  rw [sumN_congr h2, sumN_mul, sumN_between (by omega) (by omega)]
  have e1 : ((i + 1 : Nat) : Int) - rb i = (i : Int) - rb i + 1 := by omega
  rw [e1, Int.mul_assoc, Int.mul_comm ((re i : Int) - i)]
theorem overSt_one (ns : List Int) : overSt ns (fun _ => 1) * 2 = (ns.length : Int) * (ns.length + 1) := by
  unfold overSt
  have h1 : ∀ b, b < ns.length → (sumN ns.length fun e => if b ≤ e then (1 : Int) else 0) = (ns.length : Int) - b := fun b hb => by
    rw [sumN_congr (h := fun e => if b ≤ e ∧ e < ns.length then 1 else 0) fun e he => ?_, sumN_between (by omega) (Nat.le_refl _)]
    by_cases q : b ≤ e
    · rw [if_pos q, if_pos ⟨q, he⟩]
    · rw [if_neg q, if_neg (fun z => q z.1)]
  rw [sumN_congr h1]
  have go : ∀ (m : Nat) (c : Int), sumN m (fun b => c - b) * 2 = (m : Int) * (2 * c - m + 1) := by
    intro m
    induction m with
    | zero => intro c; show (0 : Int) * 2 = _; simp
    | succ m ih =>
      intro c
      show (sumN m (fun b => c - b) + (c - m)) * 2 = _
      have e : ((m + 1 : Nat) : Int) * (2 * c - ((m + 1 : Nat) : Int) + 1) = (m : Int) * (2 * c - m + 1) - m + (2 * c - ((m + 1 : Nat) : Int) + 1) := by
        have e1 : ((m + 1 : Nat) : Int) = (m : Int) + 1 := by omega
        rw [e1, Int.add_mul, Int.one_mul]
        have e2 : 2 * c - ((m : Int) + 1) + 1 = (2 * c - m + 1) - 1 := by omega
        rw [e2, Int.mul_sub, Int.mul_one]
      rw [e, Int.add_mul, ih c]
      omega
  rw [go]
  congr 1
  omega
end L2

set_option Elab.async false
set_option linter.all false
set_option maxRecDepth 100000
set_option maxHeartbeats 4000000
namespace L2
open PySem PySem.Spec PyProof.Rows
section
variable {X : Cx}
end
theorem lc_enum {K : PySem.W.Frag} {a : Addr} {xs : List V} {g : TG} {tt : TT} {te : TE} {vs : List Nat} {σ : St} {H1 : Hp} {D : Addr} {Qd : Hp → Prop} (Pv : Nat → Hp → Prop) (h0 : Pv 0 (upd H1 D (.lst []))) (hl : ∀ i H, i ≤ xs.length → Pv i H → SqL K H a xs)
    (hs : ∀ i x H T, xs[i]? = some x → Pv i H → H T = none → g (.ref T) (wipe σ vs) (upd H T (.tup [.int (i : Nat), x])) fun σ2 H2 => wipe σ2 vs = wipe σ vs ∧ tt σ2 H2 fun b H3 =>
      if b = true then te σ2 H3 fun y H4 => ∃ acc, H4 D = some (.lst acc) ∧ acc.length < sizeLine ∧ Pv (i + 1) (upd H4 D (.lst (acc ++ [y]))) else Pv (i + 1) H3) (hd : ∀ H, Pv xs.length H → Qd H) :
    ∃ W : Nat → Nat → Hp → Prop, (∃ m, W 0 m (upd H1 D (.lst []))) ∧ ∀ i m H, W i m H →
      ((Ite K a).stop i H ∧ Qd H) ∨ ((Ite K a).go i H ∧ ∃ Nx : Hp → Prop, (∀ H', Nx H' → ∃ m', m' < m ∧ W (i + 1) m' H') ∧ ∀ x H', (Ite K a).yld i H x H' → g x (wipe σ vs) H' fun σ2 H2 => wipe σ2 vs = wipe σ vs ∧ tt σ2 H2 fun b H3 =>
        if b = true then te σ2 H3 fun y H4 => ∃ acc, H4 D = some (.lst acc) ∧ acc.length < sizeLine ∧ Nx (upd H4 D (.lst (acc ++ [y]))) else Nx H3) := by
  refine ⟨fun i m H => m = xs.length - i ∧ i ≤ xs.length ∧ Pv i H, ⟨xs.length, by simp, Nat.zero_le _, h0⟩, ?_⟩
  rintro i m H ⟨rfl, hi, p⟩
  have q := hl i H hi p
  by_cases hlt : i < xs.length
  · refine .inr ⟨⟨xs, xs[i], q, by simp [hlt]⟩, Pv (i + 1), fun H' p' => ⟨xs.length - (i + 1), by omega, rfl, hlt, p'⟩, fun x H' y => ?_⟩
    obtain ⟨T, x, e1, e2, e3, y⟩ := y
    subst e1 e3
    exact hs i x _ T (y xs q) p e2
  · have e : i = xs.length := by omega
    subst e
    exact .inl ⟨⟨xs, q, Nat.le_refl _⟩, hd H p⟩

theorem vl_map {f : Int → Int} {ns : List Int} {i : Nat} (h : i < ns.length) : vl (ns.map f) i = f (vl ns i) := by
  unfold vl
  rw [List.getD_eq_getElem?_getD, List.getD_eq_getElem?_getD, List.getElem?_map, List.getElem?_eq_getElem h]
  rfl
theorem IsReach.map {f : Int → Int} (hf : ∀ x y, f x < f y ↔ x < y) {ns : List Int} {i b e : Nat} (h : IsReach ns i b e) : IsReach (ns.map f) i b e := by
  have hie := h.ie; have hen := h.en; have hbi := h.bi
  have hle : ∀ x y, f x ≤ f y ↔ x ≤ y := fun x y => by
    have := hf y x
    constructor <;> intro q <;> omega
  refine ⟨hbi, hie, by rw [List.length_map]; exact hen, fun j h1 h2 => ?_, ?_, fun j h1 h2 => ?_, ?_⟩
  · rw [vl_map (by omega), vl_map (by omega)]; exact (hf _ _).mpr (h.bg j h1 h2)
  · rcases h.b0 with q | q
    · exact .inl q
    · right; rw [vl_map (by omega), vl_map (by omega)]; exact (hle _ _).mpr q
  · rw [vl_map (by omega), vl_map (by omega)]; exact (hle _ _).mpr (h.eg j h1 h2)
  · rcases h.e0 with q | q
    · left; rw [List.length_map]; exact q
    · by_cases z : e = ns.length
      · left; rw [List.length_map]; exact z
      · right; rw [vl_map (by omega), vl_map (by omega)]; exact (hf _ _).mpr q
theorem AreReaches.map {f : Int → Int} (hf : ∀ x y, f x < f y ↔ x < y) {ns : List Int} {ps : List (Int × Int)} (h : AreReaches ns ps) : AreReaches (ns.map f) ps :=
  ⟨by rw [List.length_map]; exact h.1, fun i p hp => let ⟨b, e, e1, r⟩ := h.2 i p hp; ⟨b, e, e1, r.map hf⟩⟩
theorem vl_seg {ns : List Int} {b e : Nat} {j : Nat} (h : j < e - b) : vl (seg ns (b : Int) (e : Int)) j = vl ns (b + j) := by
  unfold vl
  rw [List.getD_eq_getElem?_getD, List.getD_eq_getElem?_getD, seg_get (by omega) (by omega)]
  have : (b : Int).toNat + j = b + j := by omega
  rw [this]
end L2

set_option Elab.async false
set_option linter.all false
set_option maxRecDepth 100000
set_option maxHeartbeats 4000000
namespace L2
open PySem PySem.Spec PyProof.Rows
theorem PrAt.snoc {H : Hp} {ts : List Addr} {ps : List (Int × Int)} {t : Addr} {p : Int × Int} (h : PrAt H ts ps) (ht : H t = some (.tup [.int p.1, .int p.2])) : PrAt H (ts ++ [t]) (ps ++ [p]) := by
  refine ⟨by rw [List.length_append, List.length_append, h.1]; rfl, fun j t' p' h1 h2 => ?_⟩
  rcases Nat.lt_trichotomy j ts.length with z | z | z
  · rw [List.getElem?_append_left z] at h1
    rw [List.getElem?_append_left (by rw [← h.1]; exact z)] at h2
    exact h.2 j t' p' h1 h2
  · subst z
    rw [List.getElem?_append_right (Nat.le_refl _), Nat.sub_self] at h1
    rw [h.1, List.getElem?_append_right (Nat.le_refl _), Nat.sub_self] at h2
    have e1 : t = t' := by simpa using h1
    have e2 : p = p' := by simpa using h2
    subst e1 e2
    exact ht
  · rw [List.getElem?_eq_none (by rw [List.length_append, List.length_singleton]; omega)] at h1
    cases h1
theorem get_refs {ts : List Addr} {k : Nat} {x : V} (h : (ts.map V.ref)[k]? = some x) : ∃ t, ts[k]? = some t ∧ x = .ref t := by
  rw [List.getElem?_map] at h
  cases e : ts[k]? with
  | none => rw [e] at h; cases h
  | some t => rw [e] at h; exact ⟨t, rfl, (Option.some.inj h).symm⟩
end L2

set_option Elab.async false
set_option linter.all false
set_option maxRecDepth 100000
set_option maxHeartbeats 4000000
namespace L2
open PySem PySem.Spec PyProof.Rows
theorem sumN_from : ∀ (n b : Nat) (h : Nat → Int), sumN n (fun e => if b ≤ e then h e else 0) = sumN (n - b) fun j => h (b + j)
  | 0, b, h => by rw [Nat.zero_sub]; rfl
  | n + 1, b, h => by
    show sumN n (fun e => if b ≤ e then h e else 0) + (if b ≤ n then h n else 0) = _
    rw [sumN_from n b h]
    by_cases z : b ≤ n
    · have e1 : n + 1 - b = (n - b) + 1 := by omega
      have e2 : b + (n - b) = n := by omega
      rw [e1, if_pos z]
      show _ = sumN (n - b) _ + h (b + (n - b))
      rw [e2]
    · have e1 : n + 1 - b = 0 := by omega
      have e2 : n - b = 0 := by omega
      rw [e1, e2, if_neg z]; rfl
theorem sumN_neg : ∀ (n : Nat) (g : Nat → Int), sumN n (fun i => -(g i)) = -(sumN n g)
  | 0, _ => rfl
  | n + 1, g => by
    show sumN n (fun i => -(g i)) + -(g n) = -(sumN n g + g n)
    rw [sumN_neg n g]; omega
theorem sumN_sub (n : Nat) (g h : Nat → Int) : sumN n (fun i => g i - h i) = sumN n g - sumN n h := by
  have e : (fun i => g i - h i) = fun i => g i + -(h i) := funext fun i => by omega
  rw [e, sumN_add, sumN_neg]; omega
def sumSt (ns : List Int) (g : List Int → Int) : Int := sumN ns.length fun b => sumN (ns.length - b) fun j => g (seg ns (b : Int) ((b + j + 1 : Nat) : Int))
theorem least_at {ns : List Int} {b e : Nat} (h : b < e) (he : e ≤ ns.length) : vl ns (b + pl (seg ns (b : Int) (e : Int))) = minL (seg ns (b : Int) (e : Int)) := by
  have st : IsSt ns.length (b : Int) (e : Int) := ⟨by omega, by omega, by omega⟩
  obtain ⟨f1, f2, f3⟩ := fst_at (minL_spec (seg_ne st)).1
  have sl := seg_len st
  have hp : pl (seg ns (b : Int) (e : Int)) < e - b := by unfold pl; omega
  rw [← vl_seg (e := e) hp]
  unfold vl pl
  rw [List.getD_eq_getElem?_getD, f1]; rfl
theorem sumSt_least (ns : List Int) : sumSt ns minL = overSt ns (vl ns) := by
  unfold sumSt overSt
  refine sumN_congr fun b hb => ?_
  rw [sumN_from]
  refine sumN_congr fun j hj => ?_
  exact (least_at (b := b) (e := b + j + 1) (by omega) (by omega)).symm
theorem great_of_neg {ns : List Int} {b e : Nat} (h : b < e) (he : e ≤ ns.length) : maxL (seg ns (b : Int) (e : Int)) = -(minL (seg (ns.map fun n => -n) (b : Int) (e : Int))) := by
  have st : IsSt ns.length (b : Int) (e : Int) := ⟨by omega, by omega, by omega⟩
  have em : (ns.map fun n => -n) = ns.map fun n => 0 - n := List.map_congr_left fun n _ => by omega
  rw [em, seg_map, minL_neg (seg_ne st)]; omega
theorem sumSt_great (ns : List Int) : sumSt ns maxL = -(overSt (ns.map fun n => -n) (vl (ns.map fun n => -n))) := by
  rw [← sumSt_least]
  unfold sumSt
  rw [List.length_map, ← sumN_neg]
  refine sumN_congr fun b hb => ?_
  rw [← sumN_neg]
  exact sumN_congr fun j hj => great_of_neg (by omega) (by omega)
theorem sumSt_spread (ns : List Int) : sumSt ns (fun l => maxL l - minL l) = sumSt ns maxL - sumSt ns minL := by
  unfold sumSt
  rw [← sumN_sub]
  exact sumN_congr fun b hb => sumN_sub _ _ _
/-- by the reaches: each number as often as it is the first least one -/
theorem sum_reaches {ns : List Int} {ps : List (Int × Int)} (h : AreReaches ns ps) (f : Nat → Int) : overSt ns f = sumN ns.length fun i => f i * (((i : Int) - (ps.getD i (0, 0)).1 + 1) * ((ps.getD i (0, 0)).2 - i)) := by
  have hr : ∀ i, i < ns.length → IsReach ns i (ps.getD i (0, 0)).1.toNat (ps.getD i (0, 0)).2.toNat ∧ ((ps.getD i (0, 0)).1.toNat : Int) = (ps.getD i (0, 0)).1 ∧ ((ps.getD i (0, 0)).2.toNat : Int) = (ps.getD i (0, 0)).2 := fun i hi => by
    have hl : i < ps.length := by rw [h.1]; exact hi
    have e0 : ps.getD i (0, 0) = ps[i] := by rw [List.getD_eq_getElem?_getD, List.getElem?_eq_getElem hl]; rfl
    obtain ⟨b, e, e1, r⟩ := h.2 i _ (List.getElem?_eq_getElem hl)
    rw [e0, e1]
    exact ⟨by simpa using r, by simp, by simp⟩
  rw [overSt_reaches (fun i hi => (hr i hi).1) f]
  refine sumN_congr fun i hi => ?_
  rw [(hr i hi).2.1, (hr i hi).2.2]
end L2

set_option Elab.async false
set_option linter.all false
set_option maxRecDepth 100000
set_option maxHeartbeats 4000000
namespace L2
open PySem PySem.Spec PyProof.Rows
theorem sumN_split : ∀ (p k : Nat) (f : Nat → Int), sumN (p + k) f = sumN p f + sumN k fun i => f (p + i)
  | p, 0, f => by show sumN p f = sumN p f + 0; omega
  | p, k + 1, f => by
    show sumN (p + k) f + f (p + k) = sumN p f + (sumN k (fun i => f (p + i)) + f (p + k))
    rw [sumN_split p k f]; omega
theorem sumN_const (n : Nat) (c : Int) : sumN n (fun _ => c) = (n : Int) * c := by
  induction n with
  | zero => simp [sumN]
  | succ n ih =>
    show sumN n _ + c = _
    rw [ih, show ((n + 1 : Nat) : Int) = (n : Int) + 1 from by omega, Int.add_mul, Int.one_mul]
theorem sumSt_congr {ns : List Int} {g h : List Int → Int} (e : ∀ l, l ≠ [] → g l = h l) : sumSt ns g = sumSt ns h := by
  unfold sumSt
  exact sumN_congr fun b hb => sumN_congr fun j hj => e _ (seg_ne ⟨by omega, by omega, by omega⟩)
theorem sumSt_map {ns : List Int} {f : Int → Int} {g : List Int → Int} : sumSt (ns.map f) g = sumSt ns fun l => g (l.map f) := by
  unfold sumSt
  rw [List.length_map]
  exact sumN_congr fun b hb => sumN_congr fun j hj => by rw [seg_map]
theorem sumSt_add (ns : List Int) (g h : List Int → Int) : sumSt ns (fun l => g l + h l) = sumSt ns g + sumSt ns h := by
  unfold sumSt
  rw [← sumN_add]
  exact sumN_congr fun b hb => sumN_add _ _ _
theorem sumSt_mul (ns : List Int) (c : Int) (g : List Int → Int) : sumSt ns (fun l => c * g l) = c * sumSt ns g := by
  unfold sumSt
  rw [← sumN_mul]
  exact sumN_congr fun b hb => sumN_mul _ _ _
theorem sumSt_neg (ns : List Int) (g : List Int → Int) : sumSt ns (fun l => 0 - g l) = 0 - sumSt ns g := by
  have := sumSt_mul ns (-1) g
  rw [sumSt_congr (h := fun l => -1 * g l) fun l _ => by omega, this]; omega
theorem sumSt_const (ns : List Int) (c : Int) : sumSt ns (fun _ => c) = c * ((ns.length : Int) * (ns.length + 1) / 2) := by
  have h1 : sumSt ns (fun _ => c) = c * sumSt ns (fun _ => 1) := by
    rw [← sumSt_mul]; exact sumSt_congr fun l _ => by omega
  have h2 : sumSt ns (fun _ => 1) = overSt ns (fun _ => 1) := by
    unfold sumSt overSt
    refine sumN_congr fun b hb => ?_
    rw [sumN_from]
  have h3 := overSt_one ns
  rw [h1, h2]
  congr 1
  omega
theorem sum_turned_least (ns : List Int) : sumSt (ns.map fun n => 0 - n) minL = 0 - sumSt ns maxL := by
  rw [sumSt_map, sumSt_congr (h := fun l => 0 - maxL l) fun l h => minL_neg h, sumSt_neg]
theorem sum_turned_great (ns : List Int) : sumSt (ns.map fun n => 0 - n) maxL = 0 - sumSt ns minL := by
  rw [sumSt_map, sumSt_congr (h := fun l => 0 - minL l) fun l h => maxL_neg h, sumSt_neg]
end L2

set_option Elab.async false
set_option linter.all false
set_option maxRecDepth 100000
set_option maxHeartbeats 4000000
namespace L2
open PySem PySem.Spec PyProof.Rows
section
variable {X : Cx} {tg : Expr}
end
theorem sum_range' (f : Nat → Int) : ∀ n, ((List.range n).map f).sum = sumN n f
  | 0 => rfl
  | n + 1 => by
    rw [List.range_succ, List.map_append, List.sum_append, sum_range' f n]
    show sumN n f + (f n + 0) = sumN n f + f n
    omega
end L2

set_option Elab.async false
set_option linter.all false
set_option maxRecDepth 100000
set_option maxHeartbeats 4000000
namespace L2
open PySem PySem.Spec PyProof.Rows

/-- the code object that runs: all that a generator expression wants of it -/
def CodeK (P : Program) (K : PySem.W.Frag) (mg : Str → Option Value) (cdv : Value) : Prop :=
  ∃ (c Pt : Addr) (oc : Obj) (vs : Array Value) (file : Str) (tf : Tok) (flags : Int) (tg : Tok) (inF : Bool) (text : Int) (tt : Tok), cdv = .ref c ∧ TabOf P K mg Pt ∧ K.lookup c = some oc ∧ oc.cls = .type "code" ∧ oc.data = .fields vs ∧
    vs.getD 11 .none = .ref Pt ∧ vs[11]? = some (.ref Pt) ∧ vs.getD 18 .none = .str file tf ∧ vs.getD 7 .none = .int flags tg ∧ vs.getD 9 .none = .bool inF ∧ vs.getD 10 .none = .int text tt
section
variable {X : Cx} {pins : List (Addr × Obj)} {σ : St} {H : Hp} {s : Shared}
theorem Inv.tabs (I : Inv X pins σ H s) : Tabs X.prog X.K X.mg H := I.ok.tb.un I.base

theorem gen_code {M : Model} {A : Around} {E : Value → Shared → Prop} {pos : Pos} {qual : Str} {scope : Scope} {Q : Value → Shared → Prop} (I : Inv X pins σ H s) (ck : CodeK X.prog X.K X.mg X.env.code)
    (hQ : ∀ code h' tk H', Inv X pins σ H' { s with heap := h', toks := tk } → Same H H' → (∀ b, H b = none → H' b = none) → (∀ b o, s.heap.get? b = some o → o.cls ≠ .none → h'.get? b = some o) → s.heap.objs.size ≤ h'.objs.size → Q code { s with heap := h', toks := tk }) :
    wpAny M A (genexprCode X.env pos qual scope) Q E s := by
  obtain ⟨c, Pt, oc, vs, file, tf, flags, tg, inF, text, tt, ec, tb, lk, hcl, hd, h11, h11', h18, h7, h9, h10⟩ := ck
  obtain ⟨ps, hps⟩ := I.tabs Pt tb
  have hob : s.heap.get? Pt = some { cls := .none, data := .fields ps } ∧ TriplesOk ps.toList := I.hok Pt _ hps
  obtain ⟨hP, htr⟩ := hob
  have hc := I.kIn c oc lk
  have hcn : H c = none := (I.bs c oc (I.mod.kin c oc lk)).2
  have ne : c ≠ Pt := fun z => by rw [z, hps] at hcn; cases hcn
  have code : s.heap.IsCode c Pt ps := ⟨oc, vs, file, tf, flags, tg, inF, text, tt, _, hc, hd, h11, h18, h7, h9, h10, hP, rfl, htr, ne⟩
  have tab : s.heap.TableAt c Pt ps := ⟨⟨oc, vs, hc, hcl, hd, h11'⟩, hP⟩
  cases hf : codeAmong pos ps.toList with
  | some cv =>
    refine wpAny_genexprCode_hit ec code hf ?_
    exact hQ cv s.heap s.toks H (I.tok s.toks) (Same.refl H) (fun _ q => q) (fun _ _ q _ => q) (Nat.le_refl _)
  | none =>
    refine wpAny_genexprCodeX ec code tab hf fun c' h' tk hx hge hlt hcode' _ htab' _ => ?_
    have nP : ∀ b u, H b = some u → (∀ qs, u ≠ .tbl qs) → b ≠ Pt := fun b u e n z => by
      rw [z, hps] at e
      cases e
      exact n _ rfl
    have fr : ∀ b, H b = none → b ≠ Pt := fun b q z => by rw [z, hps] at q; cases q
    have tr' : TriplesOk (ps ++ #[rawInt pos.line, rawInt pos.col, Value.ref c']).toList := by
      obtain ⟨_, _, _, _, _, _, _, _, _, _, _, _, _, _, _, _, _, _, _, z, _⟩ := hcode'
      exact z
    have inv : Inv X pins σ (upd H Pt (.tbl (ps ++ #[rawInt pos.line, rawInt pos.col, .ref c']))) { s with heap := h', toks := tk } := by
      refine I.un ⟨fun b o q n _ _ => hx b o (fr b n) q, fun b o q n _ _ => ⟨o.slots, hx b o (fr b n) q⟩, fun b o q n _ => by rw [upd_ne (fr b n)]; exact n, fun b o q _ => ?_, fun b xs q => ?_, fun b o u q => ?_, fun b qs q => ?_⟩ fun b u e => ?_
      · by_cases hb : b = Pt
        · exact ⟨_, by rw [hb]; exact htab'.2⟩
        · exact ⟨o, hx b o hb q⟩
      · rw [upd_ne (nP b _ q fun _ z => nomatch z)]; exact q
      · rw [upd_ne (nP b _ q fun _ z => nomatch z)]; exact q
      · by_cases hb : b = Pt
        · subst hb
          rw [hps] at q
          cases q
          exact ⟨_, upd_same⟩
        · exact ⟨#[], by rw [upd_ne hb, q]; simp⟩
      · by_cases hb : b = Pt
        · subst hb
          rw [upd_same] at e
          cases e
          exact ⟨htab'.2, tr'⟩
        · rw [upd_ne hb] at e
          refine (I.hok b u e).stay (fun d v hd' q => hx d v ?_ q) (fun d q => ?_) fun d xs q => ?_
          · rcases hd' with z | z
            · rw [z]; exact hb
            · exact nP d _ z fun _ y => nomatch y
          · rw [upd_ne (nP d _ q fun _ z => nomatch z)]; exact q
          · rw [upd_ne (nP d _ q fun _ z => nomatch z)]; exact q
    exact hQ _ h' tk _ inv (Same.tb hps) (fun b q => by rw [upd_ne (fr b q)]; exact q) (fun b o q hn => hx b o (fun z => by rw [z, hP] at q; cases q; exact hn rfl) q) (Nat.le_trans hge (Nat.le_of_lt hlt))

/-- sum(e for a, b in it): what is wanted of the iterator, the tests, the element -/
theorem gen_sum {Q : Value → Shared → Prop} {E : Value → Shared → Prop} {elt iter : Expr} {xa xb : Str} {pa pb pt : Pos} {kt : Nat} {ifs : List Expr} {scope : Scope} {cl : List (Str × Addr)} {gpos : Pos} (I : Inv X pins σ H s)
    (hc : X.calm = true) (ck : CodeK X.prog X.K X.mg X.env.code)
    (hco : scope.isCoroutine = false) (hclos : closureFor scope X.env = pure cl) (hcell : ∀ y ∈ scope.names, y.2 ≠ .cell) (h0 : scope.names.lookup (".0" : Str) = some NameKind.local)
    (hxa : scope.names.lookup xa = some .local) (hxb : scope.names.lookup xb = some .local) (hab : xa ≠ xb) (hkind : scope.kind = .function) (hroom : X.A.depth < recursionLimit)
    (h : wpAny (model X.prog X.w) X.A (eval iter X.env) (fun xv s₁ => wpAny (model X.prog X.w) X.A (pyIter xv) (fun it s₂ =>
      ∃ H₂ I₀ fp wr n₀ Pt St₀ Mid, ∃ (pz : Nat → Bool) (val : Nat → Int), Inv X pins σ H₂ s₂ ∧ it = .ref I₀ ∧ (∀ A' : Around, A'.handled = none → WalksU X.prog X.w A' I₀ fp wr n₀ Pt St₀ Mid) ∧ (∀ i vals, Pt i vals → ∃ va vb, vals = #[va, vb]) ∧ St₀ 0 s₂.heap ∧
        (∀ b ∈ fp, ∃ o, s₂.heap.get? b = some o ∧ o.cls ≠ .none) ∧ (∀ b ∈ wr, FpOk X pins H₂ b) ∧
        (∀ (C : Addr) (code : Value) (A' : Around) (E' : Value → Shared → Prop) (i : Nat) (va vb : Value) (t s₃ : Shared) (H₃ : Hp) m₂, Inv X pins σ H₃ s₃ → Same H₂ H₃ → A'.handled = none → A'.depth ≤ X.A.depth + 1 → A'.units ≤ X.A.units + 8 → Pt i #[va, vb] →
          t.heap.Ns C m₂ → m₂ xa = some va → m₂ xb = some vb → (∀ b o, b ∉ wr → s₃.heap.get? b = some o → t.heap.get? b = some o) →
          wpAny (model X.prog X.w) A' (forIn ifs true fun c r => if r = true then do let ok ← isTrue c (genEnv scope cl C code builtinsNs X.env) (eval c (genEnv scope cl C code builtinsNs X.env)); pure (ForInStep.yield ok) else pure (ForInStep.yield r))
            (fun ok s' => ok = pz i ∧ Keeps t s') E' t ∧
          (pz i = true → wpAny (model X.prog X.w) A' (eval elt (genEnv scope cl C code builtinsNs X.env)) (fun y s' => (∃ tk, y = .int (val i) tk) ∧ Keeps t s') E' t)) ∧
        ∀ H' s' tk, Inv X pins σ H' s' → Same H₂ H' → Q (.int (((passing pz n₀ 0).map val).sum) tk) s') E s₁) E s)
    (hs : ∀ x, genFold iter X.env x = pure x) :
    wpAny (model X.prog X.w) X.A (eval (.GeneratorExp elt [⟨.Tuple [.Name xa pa, .Name xb pb] kt pt, iter, ifs, 0⟩] scope gpos) X.env) (fun v s₅ => wpAny (model X.prog X.w) X.A (call (.builtin "sum") [v]) Q E s₅) E s := by
  have hh : X.A.handled = none := I.ok.hd hc
  refine wpAny_GeneratorExp_walksQTD hh hco hclos hcell h0 hxa hxb hab hkind hroom (thn h fun xv s₁ h₁ => thn h₁ fun it s₂ h₂ => ?_) hs
  obtain ⟨H₂, I₀, fp, wr, n₀, Pt, St₀, Mid, pz, val, I₂, rfl, W₀, hsz2, hst, hfp, hwr, hq, hQ⟩ := h₂
  refine ⟨I₂.nolimit, gen_code I₂ ck fun code h₃ tk₃ H₃ I₃ sm fr keep sz => ?_⟩
  obtain ⟨bm, ob, M⟩ := I₃.mod.bmod
  have M₃ : BMod h₃ mainGlobals X.mg bm ob := M.keeps I₃.bk
  have hcw : cStatics ∉ wr := fun hm => by
    obtain ⟨mc, ⟨oc, es, ep, hoc, _⟩, _⟩ := I₃.mod.nolimit
    obtain ⟨_, _, _, z, _⟩ := hwr _ hm
    rcases z with z | z
    · exact I₃.ok.noex _ _ hoc z
    · exact absurd (Nat.lt_of_lt_of_le (Heap.lt_size hoc) (Nat.le_trans I₃.ok.bsz z)) (Nat.lt_irrefl _)
  refine wpAny_builtinsFor (by rw [I₃.ok.glob]; exact M₃.ns) M₃.name M₃.ne M₃.obj M₃.cls M₃.dict M₃.data ?_
  have kp : ∀ b ∈ fp, ∀ o, s₂.heap.get? b = some o → h₃.get? b = some o := fun b hb o e => by
    obtain ⟨o', e', n⟩ := hfp b hb
    rw [e] at e'
    cases e'
    exact keep b o e n
  refine ⟨I₀, fp, wr, n₀, Pt, St₀, Mid, pz, fun i y => ∃ tk, y = .int (val i) tk, rfl, W₀, hsz2, (W₀ X.A hh).frame _ _ _ hst kp, (fun b hb => by
      obtain ⟨o, e, n⟩ := hfp b hb
      exact Heap.lt_size (kp b hb o e)), I₃.nolimit, hcw, (fun href hhr => ?_), fun a h₅ tk gs hgb hag hsz₅ hk₅ W hat => ?_⟩
  · refine ⟨fun A' E' i va vb t m₂ hA hD hU hP hn ha hb hkp => ?_, fun A' E' i va vb t m₂ hA hD hU hP hz hn ha hb hkp => ?_⟩
    · exact (hq h₃.objs.size code A' E' i va vb t _ H₃ m₂ I₃ sm hA hD hU hP hn ha hb fun b o hw e => hkp b (List.mem_range.mpr (Heap.lt_size e)) hw o (hhr b o e)).1
    · exact (hq h₃.objs.size code A' E' i va vb t _ H₃ m₂ I₃ sm hA hD hU hP hn ha hb fun b o hw e => hkp b (List.mem_range.mpr (Heap.lt_size e)) hw o (hhr b o e)).2 hz
  · have W' := W.in4_1
    refine call_sum_walkAnyS (W'.self 0 _ _ _ hat ⟨a, _, _, _, _, _, _, fun j => ((passing pz n₀ 0).map val).getD j 0, rfl, W', hat, fun b hb => ?_, fun j v hv => ?_, fun s' t' hm => ?_⟩)
    · show b < h₅.objs.size
      rw [hsz₅]
      have hag' : h₃.objs.size < a := hag
      rcases List.mem_cons.mp hb with z | hb
      · rw [z]; exact Nat.lt_succ_self _
      · rcases List.mem_cons.mp hb with z | hb
        · rw [z]; exact Nat.lt_succ_of_lt hag'
        · exact Nat.lt_succ_of_lt (Nat.lt_trans (List.mem_range.mp hb) hag')
    · obtain ⟨i, hi, tk, rfl⟩ := hv
      exact ⟨tk, by simp [List.getD_eq_getElem?_getD, hi]⟩
    · have e := preSum_getD ((passing pz n₀ 0).map val) (passing pz n₀ 0).length
      rw [List.take_of_length_le (by simp)] at e
      rw [e]
      have kk : ∀ b o, b ∉ wr → h₃.get? b = some o → s'.heap.get? b = some o := fun b o hb q => hm.heap b o (fun z => by
        rcases List.mem_cons.mp z with z | z
        · exact absurd (Heap.lt_size q) (by rw [z]; exact Nat.lt_irrefl _)
        · exact hb z) (hk₅ b o q)
      have fw : ∀ b ∈ wr, H₃ b = none := fun b hb => fr b (hwr b hb).1
      refine hQ H₃ s' t' (I₃.call' (ch := wr) hm.os ⟨fun b o q n _ hx => kk b o hx q, fun b o q n _ hx => ⟨o.slots, kk b o hx q⟩, fun b o q n _ => n, fun b o q hx => ⟨o, kk b o hx q⟩, fun _ _ q => q, fun _ _ _ q => q, fun b qs q => ⟨#[], by rw [q]; simp⟩⟩ (fun b u q => ?_) ((I₃.bare.push hgb).movedS hm) fun b hb => ?_) sm
      · refine (I₃.hok b u q).stay (fun d v hd q' => kk d v (fun hw => ?_) q') (fun _ z => z) fun _ _ z => z
        have := fw d hw
        rcases hd with z | z
        · rw [z, q] at this; cases this
        · rw [z] at this; cases this
      · obtain ⟨_, a1, a2, a3, a4, a5⟩ := hwr b hb
        exact ⟨a3, a1, a4, a5⟩
end
end L2

set_option Elab.async false
set_option linter.all false
set_option maxRecDepth 100000
set_option maxHeartbeats 4000000
namespace L2
open PySem PySem.Spec PyProof.Rows

theorem passing_all (n : Nat) : passing (fun _ => true) n 0 = List.range n := by
  unfold passing
  rw [List.drop_zero]
  exact List.filter_eq_self.mpr fun _ _ => rfl
theorem range_zip_sum (ns ms : List Int) (f : Int → Int → Int) :
    (((List.range (min ns.length ms.length)).map fun i => f (ns.getD i 0) (ms.getD i 0)).sum) = ((ns.zip ms).map fun p => f p.1 p.2).sum := by
  congr 1
  apply List.ext_getElem?
  intro i
  rw [List.getElem?_map, List.getElem?_map]
  by_cases h : i < min ns.length ms.length
  · have h1 : i < ns.length := by omega
    have h2 : i < ms.length := by omega
    rw [List.getElem?_range h, List.getElem?_eq_getElem (by rw [List.length_zip]; exact h)]
    simp [List.getElem_zip, h1, h2]
  · rw [List.getElem?_eq_none (by rw [List.length_range]; omega), List.getElem?_eq_none (by rw [List.length_zip]; omega)]
    rfl

/-- what an element of a generator expression with two names tells, as a whole number -/
def El2 (scope : Scope) (cl : List (Str × Addr)) (env : Env) (prog : Program) (w : World) (xa xb : Str) (elt : Expr) (C : Int → Int → Prop) (f : Int → Int → Int) : Prop :=
  ∀ (A' : Around) (E' : Value → Shared → Prop) (L : Addr) (code : Value) (x y : Int) (tx ty : Tok) (t : Shared) (m₂ : Str → Option Value), t.heap.Ns L m₂ → m₂ xa = some (.int x tx) → m₂ xb = some (.int y ty) → C x y →
    wpAny (model prog w) A' (eval elt (genEnv scope cl L code builtinsNs env)) (fun v s' => (∃ tk, v = .int (f x y) tk) ∧ Keeps t s') E' t
theorem keeps_tok (t : Shared) (n : Nat) : Keeps t { t with toks := n } := ⟨t.heap, n, rfl, fun _ _ e => e⟩
theorem keeps_refl (t : Shared) : Keeps t t := ⟨t.heap, t.toks, rfl, fun _ _ e => e⟩
section
variable {scope : Scope} {cl : List (Str × Addr)} {env : Env} {prog : Program} {w : World} {xa xb : Str}
theorem el_mul {p p1 p2 : Pos} (hk : scope.kind = .function) (ha : scope.names.lookup xa = some .local) (hb : scope.names.lookup xb = some .local) (hda : (xa == ("__debug__" : Str)) = false) (hdb : (xb == ("__debug__" : Str)) = false) :
    El2 scope cl env prog w xa xb (.BinOp (.Name xa p1) .Mult (.Name xb p2) p) CMul fun x y => x * y := by
  intro A' E' L code x y tx ty t m₂ hn h1 h2 hc
  refine wpAny_BinOp (wpAny_Name (wpAny_loadName_local hk ha hn h1 (wpAny_Name (wpAny_loadName_local hk hb hn h2 (mul_int ⟨⟨_, rfl⟩, keeps_tok _ _⟩ hc.ok)) hdb)) hda)
end

/-- sum(e for a, b in zip(xs, ys)) -/
def tSumZip (K : PySem.W.Frag) (C : Int → Int → Prop) (f : Int → Int → Int) (ta : TA) : TE := fun σ H Q => ta σ H fun vs H1 => ∃ (a b : Addr) (ns ms : List Int), vs = [.ref a, .ref b] ∧ SqL K H1 a (ns.map V.int) ∧ SqL K H1 b (ms.map V.int) ∧ (∀ p ∈ ns.zip ms, C p.1 p.2) ∧
  ∀ H', Same H1 H' → Q (.int (((ns.zip ms).map fun p => f p.1 p.2).sum)) H'
theorem boot_zip9 : bootBuiltins "zip" = some (.type "zip") := by decide +kernel
theorem boot_sum9 : bootBuiltins "sum" = some (.builtin "sum") := by decide +kernel
theorem pe_sum_zip {X : Cx} {k : Nat} {elt e e2 : Expr} {xa xb : Str} {pa pb pt : Pos} {kt : Nat} {scope : Scope} {gpos : Pos} {ta : TA} {p p' pos pos' : Pos} {C : Int → Int → Prop} {f : Int → Int → Int} (hr : Room k X.A) (ck : CodeK X.prog X.K X.mg X.env.code)
    (hc : X.calm = true) (hg : Gl X "sum") (hm : X.mg "sum" = none) (hg' : Gl X "zip") (hm' : X.mg "zip" = none) (ha : PA X [e, e2] ta)
    (he : El2 scope [] X.env X.prog X.w xa xb elt C f)
    (hco : scope.isCoroutine = false) (hfree : ∀ x ∈ scope.names, x.2 ≠ .free) (hcell : ∀ y ∈ scope.names, y.2 ≠ .cell) (h0 : scope.names.lookup (".0" : Str) = some NameKind.local)
    (hxa : scope.names.lookup xa = some .local) (hxb : scope.names.lookup xb = some .local) (hab : xa ≠ xb) (hkind : scope.kind = .function)
    (hs : starEach [e, e2] X.env = (false, eval e X.env) :: starEach [e2] X.env := by rfl) (hpl : (backTo pos' (starEach [e2] X.env)).any (·.1) = false := by rfl)
    (hs2 : starEach [.GeneratorExp elt [⟨.Tuple [.Name xa pa, .Name xb pb] kt pt, .Call (.Name "zip" p') [e, e2] [] pos', [], 0⟩] scope gpos] X.env = [(false, eval (.GeneratorExp elt [⟨.Tuple [.Name xa pa, .Name xb pb] kt pt, .Call (.Name "zip" p') [e, e2] [] pos', [], 0⟩] scope gpos) X.env)] := by rfl)
    (hfold : ∀ x, genFold (.Call (.Name "zip" p') [e, e2] [] pos') X.env x = pure x := by intro x; rfl) :
    PE X (.Call (.Name "sum" p) [.GeneratorExp elt [⟨.Tuple [.Name xa pa, .Name xb pb] kt pt, .Call (.Name "zip" p') [e, e2] [] pos', [], 0⟩] scope gpos] [] pos) (tSumZip X.K C f ta) := by
  intro pins s σ H Q I h
  refine wpAny_Call_Name_kw (ld_blt I hg hm boot_sum9 (PyProof.Rows.callWith_builtin1 ?_ hs2 rfl))
  rw [hs2]
  show wpAny _ _ (spliced ((false, eval (.GeneratorExp elt [⟨.Tuple [.Name xa pa, .Name xb pb] kt pt, .Call (.Name "zip" p') [e, e2] [] pos', [], 0⟩] scope gpos) X.env) :: backTo pos (starEach [] X.env))) _ _ s
  refine Calls.spliced_cons (thn (gen_sum (cl := []) (Q := EP X pins σ Q) I hc ck hco (closureFor_none hfree) hcell h0 hxa hxb hab hkind hr.depth ?_ hfold) fun v s5 h5 => Calls.spliced_nil h5)
  refine Call_ (ld_blt I hg' hm' boot_zip9 (PyProof.Rows.callWith_type1 (thn (ha pos' pins s σ H _ I h) fun us s1 ⟨vs, H1, I1, r1, q1⟩ => ?_) hs hpl))
  obtain ⟨a, b, ns, ms, ex, hqx, hqy, hC, q⟩ := q1
  subst ex
  cases r1 with
  | cons r rr =>
    cases rr with
    | cons r' rr =>
      cases rr
      cases r
      cases r'
      obtain ⟨its, rv, p1, hz1⟩ := I1.list hqx
      obtain ⟨its2, rv2, p2, hz2⟩ := I1.list hqy
      have hal : a < s1.heap.objs.size := by obtain ⟨_, z, _⟩ := p1.isList; exact Heap.lt_size z
      have hbl : b < s1.heap.objs.size := by obtain ⟨_, z, _⟩ := p2.isList; exact Heap.lt_size z
      have e1 : its.length = ns.length := by have := rv.length; rw [List.length_map] at this; omega
      have e2 : its2.length = ms.length := by have := rv2.length; rw [List.length_map] at this; omega
      refine call_zip_2 p1.isList p2.isList fun h' hz hTI hTO hi1 hi2 hsz hk => ?_
      have D := zipApart_new hal hbl
      have W := fun (A' : Around) (hA : A'.handled = none) => (WalksT.zip2 (prog := X.prog) (w := X.w) hA (s1.heap.objs.size + 4) (s1.heap.objs.size + 2) (s1.heap.objs.size + 3) s1.heap.objs.size (s1.heap.objs.size + 1) a b D its.toArray its2.toArray).toU
      have l1 := p1.isList.at (h' := h') fun o z => hk a o z
      have l2 := p2.isList.at (h' := h') fun o z => hk b o z
      have hst : IsZip h' (s1.heap.objs.size + 4) (s1.heap.objs.size + 2) (s1.heap.objs.size + 3) .none ∧ IsPair h' (s1.heap.objs.size + 2) (.ref s1.heap.objs.size) (.ref (s1.heap.objs.size + 1)) ∧ (∃ u v, IsPair h' (s1.heap.objs.size + 3) u v) ∧ h'.IsListIter s1.heap.objs.size a 0 ∧ h'.IsListIter (s1.heap.objs.size + 1) b 0 ∧ h'.IsList a its.toArray ∧ h'.IsList b its2.toArray :=
        ⟨hz, hTI, ⟨_, _, hTO⟩, hi1, hi2, l1, l2⟩
      have I2 : Inv X pins σ H1 { s1 with heap := h' } := I1.kept (t' := s1.toks) hk
      refine (W X.A (I1.ok.hd hc)).self 0 _ _ _ hst ?_
      have hints : ∀ (l : List Int) (ls : List Value), Vals (l.map V.int) ls → ∀ (i : Nat) (x : Value), ls[i]? = some x → ∃ t, x = .int (l.getD i 0) t := fun l ls rv i x hx => by
        have hil : i < l.length := by
          have h1 := rv.length
          rw [List.length_map] at h1
          rw [h1]
          exact (List.getElem?_eq_some_iff.mp hx).1
        obtain ⟨u, hu, t, e⟩ := rv.get (x := .int (l.getD i 0)) (i := i) (by rw [List.getElem?_map, List.getElem?_eq_getElem hil]; simp [hil])
        rw [hx] at hu
        cases hu
        exact ⟨t, e⟩
      refine ⟨H1, _, _, _, _, _, _, _, fun _ => true, fun i => f (ns.getD i 0) (ms.getD i 0), I2, rfl, W, (fun i vals hv => by obtain ⟨x, y, _, _, z⟩ := hv; exact ⟨x, y, z⟩), hst, fun c hb => ?_, fun c hb => ?_, fun L code A' E' i va vb t s₃ H₃ m₂ I₃ sm hA hD hU hP hn h1 h2 hk' => ⟨?_, fun _ => ?_⟩, fun H' s' tk I' sm' => ?_⟩
      · simp only [List.mem_cons, List.not_mem_nil, or_false] at hb
        obtain ⟨o1, g1, c1, _⟩ := hi1
        obtain ⟨o2, g2, c2, _⟩ := hi2
        obtain ⟨o3, g3, c3, _⟩ := l1
        obtain ⟨o4, g4, c4, _⟩ := l2
        rcases hb with rfl | rfl | rfl | rfl | rfl | rfl | rfl
        · exact ⟨_, hz, by simp⟩
        · exact ⟨_, hTI, by simp⟩
        · exact ⟨_, hTO, by simp⟩
        · exact ⟨_, g1, by rw [c1]; simp⟩
        · exact ⟨_, g2, by rw [c2]; simp⟩
        · exact ⟨_, g3, by rw [c3]; simp⟩
        · exact ⟨_, g4, by rw [c4]; simp⟩
      · have hge : s1.heap.objs.size ≤ c := by
          simp only [List.mem_cons, List.not_mem_nil, or_false] at hb
          rcases hb with rfl | rfl | rfl | rfl
          · exact Nat.le_add_right _ _
          · exact Nat.le_add_right _ _
          · exact Nat.le_refl _
          · exact Nat.le_add_right _ _
        exact I1.fpOk hge (I1.hok.fresh hge)
      · exact wpAny_pure ⟨rfl, keeps_refl _⟩
      · obtain ⟨x, y, hx, hy, ev⟩ := hP
        obtain ⟨ea, eb⟩ : va = x ∧ vb = y := by simpa using congrArg Array.toList ev
        subst ea eb
        rw [List.getElem?_toArray] at hx hy
        obtain ⟨tx, rfl⟩ := hints ns its rv i _ hx
        obtain ⟨ty, rfl⟩ := hints ms its2 rv2 i _ hy
        have hi1 : i < ns.length := by rw [← e1]; exact (List.getElem?_eq_some_iff.mp hx).1
        have hi2 : i < ms.length := by rw [← e2]; exact (List.getElem?_eq_some_iff.mp hy).1
        refine he A' E' L code _ _ tx ty t m₂ hn h1 h2 (hC (ns.getD i 0, ms.getD i 0) ?_)
        have hiz : i < (ns.zip ms).length := by rw [List.length_zip]; omega
        have := List.getElem_mem (l := ns.zip ms) hiz
        rw [List.getElem_zip] at this
        simpa [hi1, hi2] using this
      · refine ⟨.int _, H', I', ⟨tk, rfl⟩, ?_⟩
        rw [passing_all, List.size_toArray, List.size_toArray, e1, e2, range_zip_sum]
        exact q H' sm'

def fullV (vs : Array Value) : Bool := match vs[11]?, vs[18]?, vs[7]?, vs[9]?, vs[10]? with
  | Option.some (Value.ref _), Option.some (Value.str _ _), Option.some (Value.int _ _), Option.some (Value.bool _), Option.some (Value.int _ _) => true
  | _, _, _, _, _ => false
def codeFull (K : PySem.W.Frag) (cd : Value) : Bool := match cd with
  | .ref c => (match K.lookup c with
    | some ⟨oc, _, .fields vs, _⟩ => oc == .type "code" && fullV vs
    | _ => false)
  | _ => false
theorem getD_some {vs : Array Value} {i : Nat} {v : Value} (h : vs[i]? = some v) : vs.getD i .none = v := by
  obtain ⟨h1, h2⟩ := Array.getElem?_eq_some_iff.mp h
  simp [Array.getD, h1, h2]
theorem codeK_of {P : Program} {K : PySem.W.Frag} {mg : Str → Option Value} {x : Str} {f : Addr} {o : Obj} {fd : FuncData} (hm : mg x = some (.ref f)) (l : K.lookup f = some o) (hd : o.data = .func fd)
    (rc : (recsOf P).any (fun d => d.name == x) = true) (cf : codeFull K fd.code = true) : CodeK P K mg fd.code := by
  obtain ⟨d, hdm, hdn⟩ := List.any_eq_true.mp rc
  have hdn := beq_iff_eq.mp hdn
  unfold codeFull at cf
  split at cf
  · rename_i c hc
    split at cf
    · rename_i oc od vs sl lk
      rw [Bool.and_eq_true] at cf
      obtain ⟨c1, c2⟩ := cf
      unfold fullV at c2
      split at c2
      · rename_i Pt file tf flags tg inF text tt h11 h18 h7 h9 h10
        exact ⟨c, Pt, _, vs, file, tf, flags, tg, inF, text, tt, hc, ⟨d, hdm, f, o, fd, c, _, vs, by rw [hdn]; exact hm, l, hd, hc, lk, rfl, getD_some h11⟩, lk, beq_iff_eq.mp c1, rfl, getD_some h11, h11, getD_some h18, getD_some h7, getD_some h9, getD_some h10⟩
      · cases c2
    · cases cf
  · cases cf
def DefG (P : Program) (K : PySem.W.Frag) (mg : Str → Option Value) (x : Str) (st : Stmt) (ps : List Str) : Prop :=
  ∃ (f : Addr) (fd : FuncData), mg x = some (.ref f) ∧ Fun K x x st f fd ∧ Binds K fd ps [] ∧ CodeK P K mg fd.code
section
variable {P : Program} {w : World} {K : PySem.W.Frag} {mg : Str → Option Value} {base : Heap}
theorem DefG.fn {x : Str} {st : Stmt} {N ps : List Str} {k : Nat} {sp : Sp} (D : DefG P K mg x st ps) (S : FnScope N ps (defScope st)) (len : ∀ vs H Q E, sp vs H Q E → vs.length = ps.length)
    (hbody : ∀ (f : Addr) (cdv : Value) (A : Around) (outer : List Env) (s : Shared) (H : Hp) (vs : List V) (Q : VK) (E : XK), CodeK P K mg cdv → Room k (A.deeper (envOfC x (defScope st) s.heap.objs.size f cdv)) → sp vs H Q E →
      ∃ t, PSs (cxOf CX0 P w K mg base N x (defScope st) f cdv A outer s H E).nox (defBody st) t ∧ t { nx := fun _ H' => Q .non H', rt := Q } (start N vs) H) : Fn P w K mg base (k + 1) x ps sp := by
  obtain ⟨f, fd, hm, F, b, ck⟩ := D
  refine ⟨f, fd, hm, F.kp, b, ?_⟩
  obtain ⟨oc, od, kV, doc, pm, an, cdv, ct, osl, rfl, lk, hcd⟩ := F.ex
  refine fn_of lk hcd S len fun A outer s H vs Q E hr hsp => ?_
  obtain ⟨t, h, q⟩ := hbody f cdv A outer s H vs Q E ck hr hsp
  exact ⟨t, h.nox, q⟩
theorem defG_mk {h : Heap} (X : K.In h) (G : h.Ns mainGlobals mg) {x : Str} {st : Stmt} {ps : List Str} {f : Addr} {oc : Value} {od an : Option Addr} {osl : Array (Option Value)} {kV doc pm cdv ct : Value}
    (a : PySem.W.nsIn K mainGlobals x = some (some (.ref f))) (l : K.lookup f = some ⟨oc, od, .func (PySem.W.fnOf x x (defArgs st) (defBody st) (defScope st) .none kV doc pm an cdv ct), osl⟩)
    (c : PySem.W.codeIn K cdv x = true) (k : PySem.W.keepIn K (.ref f) = true) (rc : (recsOf P).any (fun d => d.name == x) = true) (cf : codeFull K cdv = true)
    (hb : ∀ (kV doc pm : Value) (an : Option Addr) (cdv ct : Value) (us : List Value), us.length = ps.length → bindArgs (PySem.W.fnOf x x (defArgs st) (defBody st) (defScope st) .none kV doc pm an cdv ct) ⟨us, []⟩ = pure (ps.zip us)) : DefG P K mg x st ps :=
  have F := fun_mk (st := st) l c k
  ⟨f, _, PySem.W.mg_of X G a, F, F.binds hb, codeK_of (PySem.W.mg_of X G a) l rfl rc cf⟩
end
end L2

set_option Elab.async false
set_option linter.all false
set_option maxRecDepth 100000
set_option maxHeartbeats 4000000
namespace L2
open PySem PySem.Spec PyProof.Rows
namespace FF
end FF
section
variable {prog : Program} {w : World} {A : Around} {E : Value → Shared → Prop} {s : Shared}
end
def MFn (P : Program) (w : World) (K : PySem.W.Frag) (mg : Str → Option Value) (base : Heap) (k : Nat) (C : Addr) (m : Str) (ps : List Str) (sp : Sp) : Prop :=
  ∃ (f : Addr) (fd : FuncData), Cls K C ∧ Meth K C m f ∧ Binds K fd ps [] ∧ FnOk P w K mg base CX0 k f fd ps sp
def IFn (P : Program) (w : World) (K : PySem.W.Frag) (mg : Str → Option Value) (base : Heap) (k : Nat) (x : Str) (C : Addr) (ps : List Str) (sp : Sp) : Prop :=
  ∃ (f : Addr) (fd : FuncData), mg x = some (.ref C) ∧ Mk K C f ∧ Binds K fd ps [] ∧ FnOk P w K mg base CX0 k f fd ps sp
def DefM (K : PySem.W.Frag) (C : Addr) (m qual : Str) (st : Stmt) (ps : List Str) : Prop :=
  ∃ (f : Addr) (fd : FuncData), Cls K C ∧ Meth K C m f ∧ Fun K m qual st f fd ∧ Binds K fd ps []
def DefI (K : PySem.W.Frag) (mg : Str → Option Value) (x : Str) (C : Addr) (qual : Str) (st : Stmt) (ps : List Str) : Prop :=
  ∃ (f : Addr) (fd : FuncData), mg x = some (.ref C) ∧ Mk K C f ∧ Fun K "__init__" qual st f fd ∧ Binds K fd ps []
section
variable {P : Program} {w : World} {K : PySem.W.Frag} {mg : Str → Option Value} {base : Heap} {C : Addr}
theorem DefM.fn {m qual : Str} {st : Stmt} {N ps : List Str} {k : Nat} {sp : Sp} (D : DefM K C m qual st ps) (S : FnScope N ps (defScope st)) (len : ∀ vs H Q E, sp vs H Q E → vs.length = ps.length)
    (hbody : ∀ (f : Addr) (cdv : Value) (A : Around) (outer : List Env) (s : Shared) (H : Hp) (vs : List V) (Q : VK) (E : XK), Room k (A.deeper (envOfC qual (defScope st) s.heap.objs.size f cdv)) → sp vs H Q E →
      ∃ t, PSs (cxOf CX0 P w K mg base N qual (defScope st) f cdv A outer s H E).nox (defBody st) t ∧ t { nx := fun _ H' => Q .non H', rt := Q } (start N vs) H) : MFn P w K mg base (k + 1) C m ps sp := by
  obtain ⟨f, fd, c, hm, F, b⟩ := D
  exact ⟨f, fd, c, hm, b, F.ok S len fun cdv A outer s H vs Q E hr h => hbody f cdv A outer s H vs Q E hr h⟩
theorem DefI.fn {x qual : Str} {st : Stmt} {N ps : List Str} {k : Nat} {sp : Sp} (D : DefI K mg x C qual st ps) (S : FnScope N ps (defScope st)) (len : ∀ vs H Q E, sp vs H Q E → vs.length = ps.length)
    (hbody : ∀ (f : Addr) (cdv : Value) (A : Around) (outer : List Env) (s : Shared) (H : Hp) (vs : List V) (Q : VK) (E : XK), Room k (A.deeper (envOfC qual (defScope st) s.heap.objs.size f cdv)) → sp vs H Q E →
      ∃ t, PSs (cxOf CX0 P w K mg base N qual (defScope st) f cdv A outer s H E).nox (defBody st) t ∧ t { nx := fun _ H' => Q .non H', rt := Q } (start N vs) H) : IFn P w K mg base (k + 1) x C ps sp := by
  obtain ⟨f, fd, hm, mk, F, b⟩ := D
  exact ⟨f, fd, hm, mk, b, F.ok S len fun cdv A outer s H vs Q E hr h => hbody f cdv A outer s H vs Q E hr h⟩
theorem defM_mk {m qual : Str} {st : Stmt} {ps : List Str} {f : Addr} {oc : Value} {od an : Option Addr} {osl : Array (Option Value)} {kV doc pm cdv ct : Value} (cl : Cls K C)
    (a : PySem.W.findIn K (.ref C) m = some (some (.ref f))) (i : PySem.W.isFn K (.ref f) = true) (l : K.lookup f = some ⟨oc, od, .func (PySem.W.fnOf m qual (defArgs st) (defBody st) (defScope st) .none kV doc pm an cdv ct), osl⟩)
    (c : PySem.W.codeIn K cdv qual = true) (k : PySem.W.keepIn K (.ref f) = true)
    (hb : ∀ (kV doc pm : Value) (an : Option Addr) (cdv ct : Value) (us : List Value), us.length = ps.length → bindArgs (PySem.W.fnOf m qual (defArgs st) (defBody st) (defScope st) .none kV doc pm an cdv ct) ⟨us, []⟩ = pure (ps.zip us)) : DefM K C m qual st ps :=
  have F := fun_mk (st := st) l c k
  ⟨f, _, cl, ⟨a, i, k⟩, F, F.binds hb⟩
theorem defI_mk {h : Heap} (X : K.In h) (G : h.Ns mainGlobals mg) {x qual : Str} {st : Stmt} {ps : List Str} {f : Addr} {oc : Value} {od an : Option Addr} {osl : Array (Option Value)} {kV doc pm cdv ct : Value}
    (n : PySem.W.nsIn K mainGlobals x = some (some (.ref C))) (mk : PySem.W.makesIn K C = true) (kc : PySem.W.keepIn K (.ref C) = true)
    (a : PySem.W.findIn K (.ref C) "__init__" = some (some (.ref f))) (i : PySem.W.isFn K (.ref f) = true) (l : K.lookup f = some ⟨oc, od, .func (PySem.W.fnOf "__init__" qual (defArgs st) (defBody st) (defScope st) .none kV doc pm an cdv ct), osl⟩)
    (c : PySem.W.codeIn K cdv qual = true) (k : PySem.W.keepIn K (.ref f) = true)
    (hb : ∀ (kV doc pm : Value) (an : Option Addr) (cdv ct : Value) (us : List Value), us.length = ps.length → bindArgs (PySem.W.fnOf "__init__" qual (defArgs st) (defBody st) (defScope st) .none kV doc pm an cdv ct) ⟨us, []⟩ = pure (ps.zip us)) : DefI K mg x C qual st ps :=
  have F := fun_mk (st := st) l c k
  ⟨f, _, PySem.W.mg_of X G n, ⟨mk, a, i, kc⟩, F, F.binds hb⟩
end
section
variable {X : Cx} {j k : Nat} {C : Addr} {x m : Str} {ps : List Str} {sp : Sp} {p pos apos : Pos} {o e : Expr} {es : List Expr} {ta : TE} {t : TA}
theorem pe_methC {pl : Sem Bool} (he : PE X o ta) (F : MFn X.prog X.w X.K X.mg X.base k C m ps sp) (hr : Room j X.A) (ha : PA X (e :: es) t) (hjk : k ≤ j := by decide)
    (hst : starEach (e :: es) X.env = (false, eval e X.env) :: starEach es X.env := by rfl) (hpl : (backTo pos (starEach es X.env)).any (·.1) = false := by rfl)
    (ht : eval (.Call (.Attribute o m apos) (e :: es) [] pos) X.env = (do
      let ov ← eval o X.env
      standAt apos.atName
      let (f, first) ← holding [ov] (getMethod ov m pl)
      callWith pos f first (backTo pos (starEach (e :: es) X.env)) (backToKw pos (keywordEach [] X.env))) := by rfl) :
    PE X (.Call (.Attribute o m apos) (e :: es) [] pos) (tMeth C m sp [] E0 ta t) := by
  obtain ⟨f, fd, c, hm, b, G⟩ := F
  exact pe_meth he c hm G (hr.mono hjk) b .nil pass0 ha hst hpl ht
end
/-- a new instance and its __init__ leave all that was tracked as it was -/
theorem Same.made' {H H1 : Hp} {x dx C : Addr} (nx : H x = Option.none) (nd : H dx = Option.none) (k : But x (upd (upd H dx (.own x)) x (.ins C dx [])) H1) : Same H H1 := fun b o e =>
  k b o (ne_of_none e nx) (by rw [upd_ne (ne_of_none e nx), upd_ne (ne_of_none e nd)]; exact e)
end L2

set_option Elab.async false
set_option linter.all false
set_option maxRecDepth 100000
set_option maxHeartbeats 4000000
namespace L2
open PySem PySem.Spec PyProof.Rows
abbrev mn (ns : List Int) (i j : Nat) : Int := minL (seg ns (i : Int) (j : Int))
theorem mem_segN {ns : List Int} {i j : Nat} {x : Int} (hj : j ≤ ns.length) : x ∈ seg ns (i : Int) (j : Int) ↔ ∃ k, i ≤ k ∧ k < j ∧ x = vl ns k := by
  constructor
  · intro h
    obtain ⟨m, hm⟩ := List.getElem?_of_mem h
    have hl : m < (seg ns (i : Int) (j : Int)).length := (List.getElem?_eq_some_iff.mp hm).1
    have hl2 : m < j - i := by
      unfold seg at hl
      rw [List.length_take, List.length_drop] at hl
      simp only [Int.toNat_natCast] at hl
      omega
    rw [seg_get (by omega) (by simpa using hl2)] at hm
    simp only [Int.toNat_natCast] at hm
    exact ⟨i + m, by omega, by omega, get_vl hm⟩
  · rintro ⟨k, h1, h2, rfl⟩
    have e : (seg ns (i : Int) (j : Int))[k - i]? = some (vl ns k) := by
      rw [seg_get (by omega) (by simp only [Int.toNat_natCast]; omega)]
      simp only [Int.toNat_natCast]
      rw [show i + (k - i) = k by omega, List.getElem?_eq_getElem (show k < ns.length by omega)]
      simp [vl, show k < ns.length by omega]
    exact List.mem_of_getElem? e
theorem segN_ne {ns : List Int} {i j : Nat} (h : i < j) (hj : j ≤ ns.length) : seg ns (i : Int) (j : Int) ≠ [] := seg_ne ⟨by omega, by omega, by omega⟩
theorem mn_same {ns ms : List Int} {i j i' j' : Nat} (h : i < j) (hj : j ≤ ns.length) (h' : i' < j') (hj' : j' ≤ ms.length)
    (a : ∀ k, i ≤ k → k < j → ∃ k', i' ≤ k' ∧ k' < j' ∧ vl ms k' ≤ vl ns k) (b : ∀ k, i' ≤ k → k < j' → ∃ k', i ≤ k' ∧ k' < j ∧ vl ns k' ≤ vl ms k) : mn ns i j = mn ms i' j' := by
  obtain ⟨m1, m2⟩ := minL_spec (segN_ne h hj)
  obtain ⟨n1, n2⟩ := minL_spec (segN_ne h' hj')
  obtain ⟨k, k1, k2, ek⟩ := (mem_segN hj).mp m1
  obtain ⟨l, l1, l2, el⟩ := (mem_segN hj').mp n1
  obtain ⟨p, p1, p2, p3⟩ := a k k1 k2
  obtain ⟨q, q1, q2, q3⟩ := b l l1 l2
  have r1 := n2 _ ((mem_segN hj').mpr ⟨p, p1, p2, rfl⟩)
  have r2 := m2 _ ((mem_segN hj).mpr ⟨q, q1, q2, rfl⟩)
  show minL _ = minL _
  omega
theorem mn_eq {ns : List Int} {i j p : Nat} (h1 : i ≤ p) (h2 : p < j) (hj : j ≤ ns.length) (h : ∀ k, i ≤ k → k < j → vl ns p ≤ vl ns k) : mn ns i j = vl ns p := by
  refine minL_uniq ((mem_segN hj).mpr ⟨p, h1, h2, rfl⟩) fun y hy => ?_
  obtain ⟨k, k1, k2, rfl⟩ := (mem_segN hj).mp hy
  exact h k k1 k2
def bE (ns : List Int) (j : Nat) : Int := sumN j fun i => mn ns i j
theorem bE_step {ns : List Int} {p b e : Nat} (h : IsReach ns p b e) : bE ns (p + 1) = vl ns p * ((p : Int) - b + 1) + bE ns b := by
  have hb := h.bi; have hie := h.ie; have hen := h.en
  have e1 : p + 1 = b + (p + 1 - b) := by omega
  unfold bE
  have s1 : (sumN (p + 1) fun i => mn ns i (p + 1)) = sumN (b + (p + 1 - b)) fun i => mn ns i (p + 1) := by rw [← e1]
  rw [s1, sumN_split]
  have s2 : (sumN b fun i => mn ns i (p + 1)) = sumN b fun i => mn ns i b := sumN_congr fun i hi => by
    have hb0 : vl ns (b - 1) ≤ vl ns p := by
      rcases h.b0 with z | z
      · omega
      · exact z
    refine mn_same (by omega) (by omega) hi (by omega) (fun k k1 k2 => ?_) (fun k k1 k2 => ⟨k, k1, by omega, Int.le_refl _⟩)
    by_cases hk : k < b
    · exact ⟨k, k1, hk, Int.le_refl _⟩
    · refine ⟨b - 1, by omega, by omega, ?_⟩
      by_cases hkp : k = p
      · rw [hkp]; exact hb0
      · have := h.bg k (by omega) (by omega)
        omega
  have s3 : (sumN (p + 1 - b) fun i => mn ns (b + i) (p + 1)) = sumN (p + 1 - b) fun _ => vl ns p := sumN_congr fun i hi => by
    refine mn_eq (by omega) (by omega) (by omega) fun k k1 k2 => ?_
    by_cases hkp : k = p
    · rw [hkp]; exact Int.le_refl _
    · have := h.bg k (by omega) (by omega)
      omega
  rw [s2, s3, sumN_const]
  have e2 : ((p + 1 - b : Nat) : Int) = (p : Int) - b + 1 := by omega
  rw [e2, Int.mul_comm, Int.add_comm]
/-- the lists that are kept -/
def byEnd (ns : List Int) : List Int := (List.range (ns.length + 1)).map (bE ns)
theorem rng_at {f : Nat → Int} {n i : Nat} (h : i < n) : vl ((List.range n).map f) i = f i := by
  show List.getD _ _ _ = _
  rw [List.getD_eq_getElem?_getD, List.getElem?_map, List.getElem?_range h]
  rfl
end L2

set_option Elab.async false
set_option linter.all false
set_option maxRecDepth 100000
set_option maxHeartbeats 4000000
namespace L2
open PySem PySem.Spec PyProof.Rows
end L2

set_option Elab.async false
set_option linter.all false
set_option maxRecDepth 100000
set_option maxHeartbeats 4000000
namespace L2
open PySem PySem.Spec PyProof.Rows
section
variable {X : Cx}
end
end L2

set_option Elab.async false
set_option linter.all false
set_option maxRecDepth 100000
set_option maxHeartbeats 4000000
namespace L2
open PySem PySem.Spec PyProof.Rows
section
variable {X : Cx}
end
end L2

set_option Elab.async false
set_option linter.all false
set_option maxRecDepth 100000
set_option maxHeartbeats 4000000
namespace L2
open PySem PySem.Spec PyProof.Rows PySem.W PySem.Calls
section
variable {P : Program} {w : World} {H H' : Hp} {h h' : Heap} {a : Addr} {o : HO}
theorem ObjOk.live (x : ObjOk P w H h a o) : ∃ u, h.get? a = some u := by
  cases o with
  | lst xs => obtain ⟨_, _, _, _, e⟩ := x; exact ⟨_, e⟩
  | tup xs => obtain ⟨_, _, _, p⟩ := x; obtain ⟨o, e, _⟩ := p; exact ⟨_, e⟩
  | dK kvs => obtain ⟨_, _, _, _, o, _, _, e, _⟩ := x; exact ⟨_, e⟩
  | dT kvs => obtain ⟨_, _, _, _, o, _, _, e, _⟩ := x; exact ⟨_, e⟩
  | set S n => obtain ⟨o, _, _, _, e, _⟩ := x; exact ⟨_, e⟩
  | ins C dx fs => obtain ⟨_, _, _, e, _⟩ := x; exact ⟨_, e⟩
  | own y => obtain ⟨_, e⟩ := x; exact ⟨_, e⟩
  | xd fs => obtain ⟨_, ⟨_, _, _, e, _⟩, _⟩ := x; exact ⟨_, e⟩
  | rng lo hi => obtain ⟨_, _, _, e⟩ := x; exact ⟨_, e⟩
  | frz ob u => obtain ⟨e, _⟩ := x; exact ⟨_, e⟩
  | tbl ps => exact ⟨_, (show h.get? a = some _ ∧ _ from x).1⟩
  | met f y => exact ⟨_, show h.get? a = some _ from x⟩
  | ext φ => obtain ⟨_, ⟨_, e⟩, _⟩ := x; exact ⟨_, e⟩
end
section
variable {X : Cx} {pins : List (Addr × Obj)} {σ : St} {H N : Hp} {s : Shared} {h' : Heap} {t' : Nat}
end
section
variable {X : Cx} {pins : List (Addr × Obj)} {σ : St} {H : Hp} {s : Shared}
end


section
variable {prog : Program} {w : World} {A : Around} {E : Value → Shared → Prop} {s : Shared}
end
end L2

set_option Elab.async false
set_option linter.all false
set_option maxRecDepth 100000
set_option maxHeartbeats 4000000
namespace L2
open PySem PySem.Spec PyProof.Rows PySem.W PySem.Calls
section
variable {X : Cx} {e : Expr} {td : TE} {apos cpos : Pos}
end
def cntSt (ns : List Int) (v : Int) : Int := sumSt ns fun s => if minL s = v then 1 else 0
/-- the unlike leasts, rising, with how many stretches have each -/
structure IsBL (ns : List Int) (ps : List (Int × Int)) : Prop where
  rise : ps.Pairwise fun p q => p.1 < q.1
  each : ∀ p ∈ ps, p.1 ∈ ns ∧ p.2 = cntSt ns p.1
  all : ∀ n ∈ ns, ∃ p ∈ ps, p.1 = n
/-- they are just one list -/
theorem IsBL.one {ns : List Int} : ∀ {ps qs : List (Int × Int)}, ps.Pairwise (fun p q => p.1 < q.1) → qs.Pairwise (fun p q => p.1 < q.1) → (∀ p, p ∈ ps ↔ p ∈ qs) → ps = qs := by
  intro ps
  induction ps with
  | nil =>
    intro qs _ _ h
    cases qs with
    | nil => rfl
    | cons q r => exact absurd ((h q).mpr List.mem_cons_self) (by simp)
  | cons p r ih =>
    intro qs h1 h2 h
    cases qs with
    | nil => exact absurd ((h p).mp List.mem_cons_self) (by simp)
    | cons q t =>
      rw [List.pairwise_cons] at h1 h2
      have e : p = q := by
        rcases List.mem_cons.mp ((h p).mp List.mem_cons_self) with z | z
        · exact z
        · rcases List.mem_cons.mp ((h q).mpr List.mem_cons_self) with y | y
          · exact y.symm
          · have := h1.1 q y; have := h2.1 p z; omega
      subst e
      rw [ih h1.2 h2.2 fun x => ?_]
      constructor
      · intro hx
        rcases List.mem_cons.mp ((h x).mp (List.mem_cons_of_mem _ hx)) with z | z
        · subst z; have := h1.1 x hx; omega
        · exact z
      · intro hx
        rcases List.mem_cons.mp ((h x).mpr (List.mem_cons_of_mem _ hx)) with z | z
        · subst z; have := h2.1 x hx; omega
        · exact z
theorem IsBL.uniq {ns : List Int} {ps qs : List (Int × Int)} (h : IsBL ns ps) (k : IsBL ns qs) : ps = qs := by
  have go : ∀ {ps qs : List (Int × Int)}, IsBL ns ps → IsBL ns qs → ∀ p, p ∈ ps → p ∈ qs := fun h k p hp => by
    obtain ⟨h1, h2⟩ := h.each p hp
    obtain ⟨q, hq, e⟩ := k.all p.1 h1
    have h3 := (k.each q hq).2
    have : q = p := Prod.ext e (by rw [h3, h2, e])
    rw [← this]; exact hq
  exact IsBL.one (ns := ns) h.rise k.rise fun p => ⟨go h k p, go k h p⟩
end L2

set_option Elab.async false
set_option linter.all false
set_option maxRecDepth 100000
set_option maxHeartbeats 4000000
namespace L2
open PySem PySem.Spec PyProof.Rows PySem.W PySem.Calls
section
variable {X : Cx} {pins : List (Addr × Obj)} {σ : St} {H : Hp} {s : Shared} {h' : Heap} {t' : Nat}
end
section
variable {X : Cx}
end
end L2

set_option Elab.async false
set_option linter.all false
set_option maxRecDepth 100000
set_option maxHeartbeats 4000000
namespace L2
open PySem
/-- all but what S holds stays -/
def ButS (S : Addr → Prop) (H H' : Hp) : Prop := ∀ b o, ¬ S b → H b = some o → SamO o (H' b)
theorem ButS.refl (S : Addr → Prop) (H : Hp) : ButS S H H := fun _ _ _ h => SamO.of h
theorem ButS.ap {S : Addr → Prop} {H H' : Hp} (s : ButS S H H') {c : Addr} {o : HO} (n : ¬ S c) (h : SamO o (H c)) : SamO o (H' c) := by
  cases o <;> first
    | exact s c _ n h
    | (obtain ⟨qs, e⟩ := h; have z : ∃ r, H' c = Option.some (.tbl r) := s c (.tbl qs) n e; exact z)
theorem ButS.trans {S : Addr → Prop} {H H1 H2 : Hp} (a : ButS S H H1) (b : ButS S H1 H2) : ButS S H H2 := fun c o n h => b.ap n (a c o n h)
theorem Same.butS {S : Addr → Prop} {H H' : Hp} (s : Same H H') : ButS S H H' := fun b o _ e => s b o e
theorem But.butS {S : Addr → Prop} {p : Addr} {H H' : Hp} (s : But p H H') (hp : S p) : ButS S H H' := fun b o n e => s b o (fun z => n (z ▸ hp)) e
theorem ButS.upd {S : Addr → Prop} {H : Hp} {p : Addr} {o : HO} (hp : S p) : ButS S H (L2.upd H p o) := by
  intro b u n h
  have nb : b ≠ p := fun z => n (by rw [z]; exact hp)
  rw [upd_ne nb]
  exact SamO.of h
theorem ButS.mono {S S' : Addr → Prop} {H H' : Hp} (s : ButS S H H') (h : ∀ b, S b → S' b) : ButS S' H H' := fun b o n e => s b o (fun z => n (h b z)) e
theorem ButS.same {S : Addr → Prop} {H H' : Hp} (s : ButS S H H') (h : ∀ b, S b → H b = none) : Same H H' := fun b o e => s b o (fun z => by rw [h b z] at e; cases e) e
/-- but for what was new ahead -/
theorem ButS.old {S S' : Addr → Prop} {H H' : Hp} (s : ButS S H H') (h : ∀ b, S b → S' b ∨ H b = none) : ButS S' H H' := fun b o n e => s b o (fun z => (h b z).elim n fun y => by rw [y] at e; cases e) e
theorem ButS.seq {K : PySem.W.Frag} {S : Addr → Prop} {a : Addr} {H H' : Hp} {xs : List V} (s : ButS S H H') (n : ¬ S a) (h : SqL K H a xs) : SqL K H' a xs := by
  rcases h with (h | ⟨o, h⟩) | h
  · exact .inl (.inl (s _ _ n h))
  · exact .inl (.inr ⟨o, s _ _ n h⟩)
  · exact .inr h
theorem PrAt.butS {S : Addr → Prop} {H H' : Hp} {ts : List Addr} {ps : List (Int × Int)} (h : PrAt H ts ps) (k : ButS S H H') (n : ∀ t ∈ ts, ¬ S t) : PrAt H' ts ps := ⟨h.1, fun j t p h1 h2 => k _ _ (n t (List.mem_of_getElem? h1)) (h.2 j t p h1 h2)⟩
section
variable {X : Cx} {K : PySem.W.Frag}
end
end L2

set_option Elab.async false
set_option linter.all false
set_option maxRecDepth 100000
set_option maxHeartbeats 4000000
namespace HT
open PySem PyProof.Rows
section
open PySem.SeqAt
open PySem.AutoSeq1 (wpAny_loadPart')
open PySem.MeetsSeq PySem.MeetsSeq2 PySem.MeetsSeq3
end
section
variable {prog : Program} {w : World} {A : Around} {E : Value → Shared → Prop} {s : Shared}
end
end HT
namespace L2
open PySem PyProof.Rows
section
variable {prog : Program} {w : World} {A : Around} {R : Result → Shared → Prop} {I : Addr} {fp wr : List Addr} {n : Nat} {P : Nat → Value → Prop} {St : Nat → Heap → Prop} {h0 : Heap}
end
section
variable {prog : Program} {w : World} {A : Around} {E : Value → Shared → Prop} {s : Shared}
end
section
variable {prog : Program} {w : World} {A : Around} {R : Result → Shared → Prop} {I : Addr} {fp wr : List Addr} {n : Nat} {P : Nat → Value → Prop} {St : Nat → Heap → Prop} {h0 : Heap}
end
section
variable {prog : Program} {w : World} {A : Around} {E : Value → Shared → Prop} {s : Shared}
end
end L2

set_option Elab.async false
set_option linter.all false
set_option maxRecDepth 100000
set_option maxHeartbeats 4000000
namespace L2
open PySem PyProof.Rows
section
variable {X : Cx}
end
end L2

set_option Elab.async false
set_option linter.all false
set_option maxRecDepth 100000
set_option maxHeartbeats 4000000
namespace L2
open PySem
def wrth (ns : List Int) (b e : Nat) : Int := mn ns b e * ((e : Int) - b)
structure IsBest (ns : List Int) (W : Int) (b e : Nat) : Prop where
  be : b < e
  en : e ≤ ns.length
  w : W = wrth ns b e
  top : ∀ b' e', b' < e' → e' ≤ ns.length → wrth ns b' e' < W ∨ (wrth ns b' e' = W ∧ (b < b' ∨ (b = b' ∧ e ≤ e')))
theorem IsBest.uniq {ns : List Int} {W W' : Int} {b e b' e' : Nat} (h : IsBest ns W b e) (h' : IsBest ns W' b' e') : W = W' ∧ b = b' ∧ e = e' := by
  have h1 := h.top b' e' h'.be h'.en
  have h2 := h'.top b e h.be h.en
  rw [← h'.w] at h1
  rw [← h.w] at h2
  omega
end L2

set_option Elab.async false
set_option linter.all false
set_option maxRecDepth 100000
set_option maxHeartbeats 4000000
namespace L2
open PySem
section
variable {X : Cx} {K : PySem.W.Frag}
end
end L2

set_option Elab.async false
set_option linter.all false
set_option maxRecDepth 100000
set_option maxHeartbeats 4000000
namespace L2
open PySem PyProof.Rows PySem.W PySem.Calls
def tStepI (K : PySem.W.Frag) (c : Int) (te : TE) (tl th : TO) : TE := fun σ H Q => te σ H fun x H1 => tl σ H1 fun l H2 => th σ H2 fun u H3 => ∃ (a : Addr) (ns : List Int), x = .ref a ∧ SqL K H3 a (ns.map V.int) ∧ ∀ p, H3 p = none → Q (.ref p) (upd H3 p (.lst ((PyProof.Rows.pickNums ns l u (some c)).map V.int)))
section
variable {X : Cx}
theorem pe_step {e : Expr} {te : TE} {lo hi : Option Expr} {tl th : TO} {c : Int} {j : Nat} {p1 p2 pos : Pos} (he : PE X e te) (hl : PO X lo tl) (hu : PO X hi th) (h0 : c ≠ 0) :
    PE X (.Subscript e (.Slice lo hi (some (.Constant (.int c) j p1)) p2) pos) (tStepI X.K c te tl th) := by
  intro pins s σ H Q I h
  refine Subscript_ (thn (he pins s σ H _ I h) fun v s1 ⟨x, H1, I1, r1, q1⟩ => ?_)
  refine wpAny_Slice (thn (hl pins s1 σ H1 _ I1 q1) fun vl s2 ⟨l, H2, I2, pl, q2⟩ => thn (hu pins s2 σ H2 _ I2 q2) fun vu s3 ⟨u, H3, I3, pu, q3⟩ => ?_)
  refine thn (po_some (X := X) pe_int pins s3 σ H3 (fun o H' => o = some c ∧ H' = H3) I3 ⟨c, rfl, rfl, rfl⟩) fun w s4 ⟨o, H4, I4, pw, eo, eH⟩ => ?_
  subst eo
  have eH' : H4 = H3 := eH
  subst eH'
  obtain ⟨a, ns, rfl, hx, q⟩ := q3
  cases r1
  have I5 : Inv X pins σ H4 { s4 with heap := s4.heap.push { cls := .type "slice", data := .fields #[vl, vu, w] } } := I4.kept (t' := s4.toks) fun b ob q => Heap.get?_push_of_some _ q
  obtain ⟨its, r, ht, hz⟩ := I5.list hx
  have hlen := r.length
  have hi' : IntsAre its ns := intsAre_of r
  show wpAny (model X.prog X.w) X.A (subscriptTail e (.Slice lo hi (some (.Constant (.int c) j p1)) p2) (.ref a) (.ref s4.heap.objs.size)) (EP X pins σ Q) X.xe { s4 with heap := s4.heap.push { cls := .type "slice", data := .fields #[vl, vu, w] } }
  refine tail_any (ops := [.ref a, .ref s4.heap.objs.size]) ht.isList.typeIs slot_list_getitem.lookup ?_ (by with_unfolding_all rfl)
  refine wpAny_getItem_list_slice ht.isList (Heap.IsSliceOf.new ..) pl pu pw (fun z => h0 (Option.some.inj z)) ?_ (by rw [List.size_toArray] <;> omega)
  have hp := IntsAre.pick hi' l u (some c)
  have hpl := length_pickNums_le hi' l u (some c)
  refine ⟨.ref (s4.heap.push { cls := .type "slice", data := .fields #[vl, vu, w] }).objs.size, _, I5.laid (t' := s4.toks) (o := .lst ((PyProof.Rows.pickNums ns l u (some c)).map V.int)) (fun b ob q => Heap.get?_push_of_some _ q) (Nat.le_refl _) ?_, rfl, q _ (I5.hok.fresh (Nat.le_refl _))⟩
  refine ⟨?_, (slicePick its.toArray l u (some c)).toList, 0, vals_of_ints hp, ?_⟩
  · rw [List.length_map] at hz ⊢
    omega
  · rw [Heap.get?_push_size _ rfl]
end
theorem pick_mem {ns : List Int} {lo hi st : Option Int} {n : Int} (h : n ∈ PyProof.Rows.pickNums ns lo hi st) : n ∈ ns := by
  unfold PyProof.Rows.pickNums at h
  obtain ⟨k, _, e⟩ := List.mem_filterMap.mp h
  exact List.mem_of_getElem? e
theorem pick_two (ns : List Int) : (PyProof.Rows.pickNums ns none none (some 2)).length + (PyProof.Rows.pickNums ns (some 1) none (some 2)).length ≤ ns.length := by
  unfold PyProof.Rows.pickNums
  refine Nat.le_trans (Nat.add_le_add (List.length_filterMap_le _ _) (List.length_filterMap_le _ _)) ?_
  unfold sliceRange sliceBounds
  simp only [List.length_map, List.length_range, Option.getD_some]
  generalize ns.length = n
  simp only [show ((2 : Int) > 0) by decide, if_true, show ¬ ((1 : Int) < 0) by decide, if_false]
  by_cases h : (0 : Int) < n
  · rw [if_pos h]
    by_cases h1 : max 0 (min 1 (n : Int)) < n
    · rw [if_pos h1]; omega
    · rw [if_neg h1]; omega
  · rw [if_neg h]
    by_cases h1 : max 0 (min 1 (n : Int)) < n
    · rw [if_pos h1]; omega
    · rw [if_neg h1]; omega
end L2

set_option Elab.async false
set_option linter.all false
set_option maxRecDepth 100000
set_option maxHeartbeats 4000000
namespace L2
open PySem
section
variable {X : Cx} {j k : Nat} {C : Addr} {x m : Str} {ps : List Str} {sp : Sp} {p pos apos : Pos} {o : Expr} {ta : TE}
theorem pe_methC0 {pl : Sem Bool} (he : PE X o ta) (F : MFn X.prog X.w X.K X.mg X.base k C m ps sp) (hr : Room j X.A) (hjk : k ≤ j := by decide)
    (ht : eval (.Call (.Attribute o m apos) [] [] pos) X.env = (do
      let ov ← eval o X.env
      standAt apos.atName
      let (f, first) ← holding [ov] (getMethod ov m pl)
      callWith pos f first (backTo pos (starEach [] X.env)) (backToKw pos (keywordEach [] X.env))) := by rfl) :
    PE X (.Call (.Attribute o m apos) [] [] pos) (tMeth C m sp [] E0 ta tNil) := by
  obtain ⟨f, fd, c, hm, b, G⟩ := F
  exact pe_meth0 he c hm G (hr.mono hjk) b .nil pass0 ht
theorem pe_makeC0 (F : IFn X.prog X.w X.K X.mg X.base k x C ps sp) (hr : Room j X.A) (hg : Gl X x) (hjk : k + 1 ≤ j := by decide) (hdb : (x == ("__debug__" : Str)) = false := by decide) :
    PE X (.Call (.Name x p) [] [] pos) (tMake C sp [] E0 tNil) := by
  obtain ⟨f, fd, hm, mk, b, G⟩ := F
  exact pe_make0 mk G (hr.mono hjk) hg hm b .nil pass0 hdb
end
/-- the greatests that end at the last number -/
def gE (ns : List Int) : Int := sumN ns.length fun i => maxL (seg ns (i : Int) (ns.length : Int))
theorem gE_neg (ns : List Int) : -(bE (ns.map fun n => -n) (ns.map fun n => -n).length) = gE ns := by
  unfold bE gE
  rw [List.length_map, ← sumN_neg]
  refine sumN_congr fun i hi => ?_
  rw [great_of_neg hi (Nat.le_refl _)]
end L2

set_option Elab.async false
set_option linter.all false
set_option maxRecDepth 100000
set_option maxHeartbeats 4000000
namespace L2
open PySem
def lastE (g : List Int → Int) (ns : List Int) : Int := sumN ns.length fun i => g (seg ns (i : Int) (ns.length : Int))
theorem lastE_least (ns : List Int) : lastE minL ns = bE ns ns.length := rfl
theorem lastE_great (ns : List Int) : lastE maxL ns = gE ns := rfl
theorem tail_ne {ns : List Int} {i : Nat} (h : i < ns.length) : seg ns (i : Int) (ns.length : Int) ≠ [] := segN_ne h (Nat.le_refl _)
end L2

set_option Elab.async false
set_option linter.all false
set_option maxRecDepth 100000
set_option maxHeartbeats 4000000
namespace L2
open PySem
/-- a test by what is known behind it -/
theorem testJ {t : TT} {σ : St} {H : Hp} {Q : Bool → Hp → Prop} (J : Bool → Hp → Prop) (h1 : ∀ R : Bool → Hp → Prop, (∀ b H', J b H' → R b H') → t σ H R) (h2 : ∀ b H', J b H' → Q b H') : t σ H Q := h1 Q h2
end L2

set_option Elab.async false
set_option linter.all false
set_option maxRecDepth 100000
set_option maxHeartbeats 4000000
namespace L2
open PySem
theorem ButS.thenNew {S : Addr → Prop} {H H1 H2 : Hp} {r : Addr} (k : ButS S H H1) (b : But r H1 H2) (n : H r = none) : ButS S H H2 := fun c o nc e => b.ap (fun z => by rw [z, n] at e; cases e) (k c o nc e)
/-- what must stay -/
theorem Same.keepS {S : Addr → Prop} {Z H H' : Hp} (s : Same Z H) (k : ButS S H H') (h : ∀ b, S b → Z b = none) : Same Z H' := fun b o e => k.ap (fun z => by rw [h b z] at e; cases e) (s b o e)
open Classical in
noncomputable def hide (S : Addr → Prop) (H : Hp) : Hp := fun b => if S b then none else H b
theorem hide_same (S : Addr → Prop) (H : Hp) : Same (hide S H) H := fun b o e => by
  unfold hide at e
  by_cases h : S b
  · rw [if_pos h] at e; cases e
  · rw [if_neg h] at e; exact SamO.of e
theorem hide_at {S : Addr → Prop} {H : Hp} {b : Addr} (h : ¬ S b) : hide S H b = H b := by unfold hide; rw [if_neg h]
theorem hide_none {S : Addr → Prop} {H : Hp} {b : Addr} (h : S b) : hide S H b = none := by unfold hide; rw [if_pos h]
/-- sums of turned and moved rows, those to the last number -/
theorem last_map (g : List Int → Int) (f : Int → Int) (ns : List Int) : lastE g (ns.map f) = sumN ns.length fun i => g ((seg ns (i : Int) (ns.length : Int)).map f) := by
  unfold lastE
  rw [List.length_map]
  refine sumN_congr fun i hi => ?_
  rw [seg_map]
theorem last_turned_least (ns : List Int) : lastE minL (ns.map fun n => 0 - n) = 0 - lastE maxL ns := by
  rw [last_map, Int.zero_sub]
  unfold lastE
  rw [← sumN_neg]
  refine sumN_congr fun i hi => ?_
  rw [minL_neg (tail_ne hi), Int.zero_sub]
theorem last_turned_great (ns : List Int) : lastE maxL (ns.map fun n => 0 - n) = 0 - lastE minL ns := by
  rw [last_map, Int.zero_sub]
  unfold lastE
  rw [← sumN_neg]
  refine sumN_congr fun i hi => ?_
  rw [maxL_neg (tail_ne hi), Int.zero_sub]
theorem last_more_least (ns : List Int) (c : Int) : lastE minL (ns.map fun n => n + c) = lastE minL ns + c * ns.length := by
  rw [last_map]
  unfold lastE
  rw [sumN_congr (h := fun i => minL (seg ns (i : Int) (ns.length : Int)) + c) fun i hi => minL_add (tail_ne hi) c, sumN_add, sumN_const, Int.mul_comm]
theorem sum_more_least (ns : List Int) (c : Int) : sumSt (ns.map fun n => n + c) minL = sumSt ns minL + c * ((ns.length : Int) * (ns.length + 1) / 2) := by
  rw [sumSt_map, sumSt_congr (h := fun l => minL l + c) fun l h => minL_add h c, sumSt_add, sumSt_const]
theorem sum_more_great (ns : List Int) (c : Int) : sumSt (ns.map fun n => n + c) maxL = sumSt ns maxL + c * ((ns.length : Int) * (ns.length + 1) / 2) := by
  rw [sumSt_map, sumSt_congr (h := fun l => maxL l + c) fun l h => maxL_add h c, sumSt_add, sumSt_const]
end L2

set_option Elab.async false
set_option linter.all false
set_option maxRecDepth 100000
set_option maxHeartbeats 4000000
namespace Law
open PySem L2
def top (i : Nat) : Stmt := PySem.Challenge.pw_stretchleast_k52_whole_growing_rows_apar.main.body.getD i (.Pass ⟨0, 0, 0, 0⟩)
abbrev bls : List Str := ["list", "enumerate", "int", "sum", "sorted", "range", "len", "min", "max", "isinstance", "bool", "repr", "zip", "set", "tuple", "dict", "reversed", "divmod", "str", "all", "abs"]
def Draws (H : Hp) (p : Addr) : Prop := ∃ ds : List Int, H p = some (.lst (ds.map V.int)) ∧ ds.length ≤ 240 ∧ ∀ d ∈ ds, 0 ≤ d ∧ d < 1000
theorem Draws.same {H H' : Hp} {p : Addr} (h : Draws H p) (s : Same H H') : Draws H' p := by
  obtain ⟨ds, c, r⟩ := h
  exact ⟨ds, s _ _ c, r⟩
theorem Draws.some {H : Hp} {p : Addr} (h : Draws H p) : H p ≠ none := by
  obtain ⟨ds, c, r⟩ := h
  rw [c]; simp
theorem Draws.ne {H : Hp} {p q : Addr} (h : Draws H p) (n : H q = none) : q ≠ p := fun z => h.some (z ▸ n)
theorem Draws.at {H : Hp} {p D : Addr} {o : HO} (h : Draws H p) (n : D ≠ p) : Draws (upd H D o) p := by
  obtain ⟨ds, c, r⟩ := h
  exact ⟨ds, by rw [upd_ne n.symm]; exact c, r⟩
theorem Draws.new {H : Hp} {p q : Addr} {o : HO} (h : Draws H p) (n : H q = none) : Draws (upd H q o) p := h.at (h.ne n)
def spDraws (K : PySem.W.Frag) : Sp := fun vs H Q _ => ∃ (a : Addr) (ns : List Int), vs = [.ref a] ∧ SqL K H a (ns.map V.int) ∧ ns.length ≤ 63 ∧ ∀ (p : Addr) (H' : Hp), H p = none → Same H H' → Draws H' p → Q (.ref p) H'
def spTake : Sp := fun vs H Q _ => ∃ (p : Addr) (many : Int), vs = [.ref p, .int many] ∧ Draws H p ∧ 0 < many ∧ ∀ got H', 0 ≤ got → got < many → got < 1000 → Draws H' p → But p H H' → Q (.int got) H'
section
variable {P : Program} {w : World} {K : PySem.W.Frag} {mg : Str → Option Value} {base : Heap}
def x_law_draws : { t : Stmt // top 20 = t } := ⟨_, by conv => { lhs; whnf }⟩
abbrev s_law_draws : Stmt := x_law_draws.1
theorem sc_law_draws : FnScope ["script", "draws", "k", "rest", "stir", "many"] ["script"] (defScope s_law_draws) := ⟨rfl, rfl, rfl, by decide +kernel, rfl, by decide +kernel, by decide +kernel⟩
theorem fn_draws (B : Bl mg bls) (D : DefAt K mg "_law_draws" s_law_draws ["script"]) : Fn P w K mg base 1 "_law_draws" ["script"] (spDraws K) := by
  refine D.fn sc_law_draws (fun vs H Q E h => ?_) (fun f cdv A outer s H vs Q E hr h => ?_)
  · obtain ⟨a, ns, rfl, _⟩ := h; rfl
  · obtain ⟨a, ns, rfl, hs, hl, q⟩ := h
    refine' ⟨_, ?tm, ?rd⟩
    (case tm =>
      (conv => { arg 2; whnf })
      refine' pss_cons ?s0 ?r0
      (case s0 =>
        exact (ps_set (i := 1) sc_law_draws.nd (by rfl) (by first | exact Or.inl rfl | exact Or.inr rfl) (pe_lst pa_nil)))
      (case r0 =>
        refine' pss_cons ?s0x ?r0x
        (case s0x =>
          refine' ps_for PassesOwn.never (by rfl) ?i0x ?g0x ?d0x
          (case i0x => exact (pi_range1 (by rfl) (B "range" (by decide +kernel)) (pa_cons (pe_callB (call_min2 rfl) (by rfl) (B "min" (by decide +kernel)) (by decide +kernel) (pa_cons (pe_callB call_len_seq (by rfl) (B "len" (by decide +kernel)) (by decide +kernel) (pa_cons (pv 0) pa_nil)) (pa_cons pe_int pa_nil))) pa_nil)))
          (case g0x => exact (pg_name (i := 2) sc_law_draws.nd (by rfl) (by first | exact Or.inl rfl | exact Or.inr rfl)))
          (case d0x =>
            refine' pss_cons ?s0xf ?r0xf
            (case s0xf =>
              exact (ps_set (i := 3) sc_law_draws.nd (by rfl) (by first | exact Or.inl rfl | exact Or.inr rfl) (pe_callB call_abs (by rfl) (B "abs" (by decide +kernel)) (by decide +kernel) (pa_cons (pe_ix ix_list (pv 0) (pv 2) (fun _ _ => rfl)) pa_nil))))
            (case r0xf =>
              refine' pss_one ?s0xfx
              (case s0xfx =>
                refine' ps_if ?c0xfx ?a0xfx ?b0xfx
                (case c0xfx => exact (pt_cmpR op_lt (pv 3) (pe_op op_pow pe_int pe_int) (nomark _)))
                (case a0xfx =>
                  refine' pss_cons ?s0xfxi ?r0xfxi
                  (case s0xfxi =>
                    exact (ps_set (i := 4) sc_law_draws.nd (by rfl) (by first | exact Or.inl rfl | exact Or.inr rfl) (pe_op op_mod (pe_op op_mul (pe_op op_mod (pe_op op_add (pe_op op_add (pv 3) (pe_op op_mul pe_int (pv 2))) pe_int) pe_int) pe_int) pe_int)))
                  (case r0xfxi =>
                    refine' pss_cons ?s0xfxix ?r0xfxix
                    (case s0xfxix =>
                      exact (ps_set (i := 4) sc_law_draws.nd (by rfl) (by first | exact Or.inl rfl | exact Or.inr rfl) (pe_op op_mod (pe_op op_mul (pv 4) (pv 4)) pe_int)))
                    (case r0xfxix =>
                      refine' pss_cons ?s0xfxixx ?r0xfxixx
                      (case s0xfxixx =>
                        exact (ps_expr (pe_bm PySem.F.plainAttrs_list PySem.F.slot_list_append PySem.F.type_list_append mt_append (pv 1) (pa_cons (pe_op op_mod (pe_op op_fdiv (pv 4) pe_int) pe_int) pa_nil))))
                      (case r0xfxixx =>
                        refine' pss_cons ?s0xfxixxx ?r0xfxixxx
                        (case s0xfxixxx =>
                          exact (ps_expr (pe_bm PySem.F.plainAttrs_list PySem.F.slot_list_append PySem.F.type_list_append mt_append (pv 1) (pa_cons (pe_op op_mod (pe_op op_fdiv (pv 4) pe_int) pe_int) pa_nil))))
                        (case r0xfxixxx =>
                          refine' pss_cons ?s0xfxixxxx ?r0xfxixxxx
                          (case s0xfxixxxx =>
                            exact (ps_set (i := 4) sc_law_draws.nd (by rfl) (by first | exact Or.inl rfl | exact Or.inr rfl) (pe_op op_mod (pe_op op_add (pv 4) (pe_op op_mul pe_int (pe_op op_add (pv 2) pe_int))) pe_int)))
                          (case r0xfxixxxx =>
                            refine' pss_one ?s0xfxixxxxx
                            (case s0xfxixxxxx =>
                              exact (ps_expr (pe_bm PySem.F.plainAttrs_list PySem.F.slot_list_append PySem.F.type_list_append mt_append (pv 1) (pa_cons (pe_op op_mod (pe_op op_fdiv (pe_op op_mod (pe_op op_mul (pv 4) (pv 4)) pe_int) pe_int) pe_int) pa_nil))))))))))
                (case b0xfx =>
                  refine' pss_cons ?s0xfxe ?r0xfxe
                  (case s0xfxe =>
                    exact (ps_set (i := 5) sc_law_draws.nd (by rfl) (by first | exact Or.inl rfl | exact Or.inr rfl) pe_int))
                  (case r0xfxe =>
                    refine' pss_one ?s0xfxex
                    (case s0xfxex =>
                      refine' ps_while PassesOwn.never ?c0xfxex ?d0xfxex
                      (case c0xfxex => exact (PW.pt (pw_and (pt_cmpR op_ge (pv 3) pe_int (nomark _)) (pw_and1 (pt_cmpR op_lt (pv 5) pe_int (nomark _))))))
                      (case d0xfxex =>
                        refine' pss_cons ?s0xfxexw ?r0xfxexw
                        (case s0xfxexw =>
                          exact (ps_expr (pe_bm PySem.F.plainAttrs_list PySem.F.slot_list_append PySem.F.type_list_append mt_append (pv 1) (pa_cons (pe_op op_mod (pv 3) pe_int) pa_nil))))
                        (case r0xfxexw =>
                          refine' pss_cons ?s0xfxexwx ?r0xfxexwx
                          (case s0xfxexwx =>
                            exact (ps_set (i := 3) sc_law_draws.nd (by rfl) (by first | exact Or.inl rfl | exact Or.inr rfl) (pe_op op_fdiv (pv 3) pe_int)))
                          (case r0xfxexwx =>
                            refine' pss_one ?s0xfxexwxx
                            (case s0xfxexwxx =>
                              exact (ps_set (i := 5) sc_law_draws.nd (by rfl) (by first | exact Or.inl rfl | exact Or.inr rfl) (pe_op op_add (pv 5) pe_int)))))))))))))
        (case r0x =>
          refine' pss_one ?s0xx
          (case s0xx =>
            exact (ps_ret (pe_slice sl_list (pv 1) po_none (po_some pe_int)))))))
    refine ⟨(by show 0 ≤ sizeLine; decide), fun D hD => ?_⟩
    have s0 := Same.new (o := .lst []) hD
    have c0 : upd H D (.lst []) D = some (.lst (([] : List Int).map V.int)) := upd_same
    generalize upd H D (.lst []) = H0 at s0 c0 ⊢
    dsimp only [gName]
    have szl : ∀ n : Nat, n ≤ 100000 → n < sizeLine := fun n h => by rw [sizeLine_eq]; omega
    have m1000 : ∀ x : Int, 0 ≤ x % 1000 ∧ x % 1000 < 1000 := fun x => ⟨Int.emod_nonneg _ (by decide), Int.emod_lt_of_pos _ (by decide)⟩
    have app : ∀ {ds : List Int} {d : Int}, (∀ x ∈ ds, 0 ≤ x ∧ x < 1000) → 0 ≤ d ∧ d < 1000 → ∀ x ∈ ds ++ [d], 0 ≤ x ∧ x < 1000 := fun h1 h2 x hx => by
      rcases List.mem_append.mp hx with z | z
      · exact h1 x z
      · rw [List.mem_singleton.mp z]; exact h2
    refine seqJ (fun σ' H' => ∃ (ds : List Int) (v2 v3 v4 v5 : Option V), σ' = [some (.ref a), some (.ref D), v2, v3, v4, v5] ∧ H' D = some (.lst (ds.map V.int)) ∧ (∀ d ∈ ds, 0 ≤ d ∧ d < 1000) ∧ Same H H') (fun fin => ?_) ?_
    · refine ⟨_, rfl, a, _, rfl, .inl (s0.seq hs), _, _, rfl, ?_⟩
      rw [List.length_map, if_neg (by omega)]
      refine ⟨_, rfl, by omega, by omega, ?_⟩
      refine for_range (lo := 0) (n := ns.length) (fun k σ H' => ∃ (ds : List Int) (v2 v3 v4 v5 : Option V), σ = [some (.ref a), some (.ref D), v2, v3, v4, v5] ∧ H' D = some (.lst (ds.map V.int)) ∧ ds.length ≤ 63 * k ∧ (∀ d ∈ ds, 0 ≤ d ∧ d < 1000) ∧ Same H H') ⟨[], _, _, _, _, rfl, c0, Nat.le_refl _, (fun d hd => nomatch hd), s0⟩ ?_ ?_
      · rintro k σ H1 hk ⟨ds, v2, v3, v4, v5, rfl, c1, dl, hd, k1⟩
        have hat : atI (ns.map V.int) (0 + (k : Nat)) = some (.int (vl ns k)) := by rw [Int.zero_add]; exact at_vl hk
        refine ⟨_, rfl, _, rfl, a, _, _, _, rfl, rfl, k1.seq hs, hat, _, rfl, ?_⟩
        have hr0 : 0 ≤ (if vl ns k < 0 then -vl ns k else vl ns k) := by split <;> omega
        generalize (if vl ns k < 0 then -vl ns k else vl ns k) = rest at hr0 ⊢
        dsimp only [gName]
        refine ⟨_, rfl, _, _, rfl, rfl, ⟨by decide, by decide, by decide⟩, _, _, rfl, rfl, _, rfl, ?_⟩
        refine ite2 (fun z => ?_) (fun z => ?_)
        · -- a small one: three draws
          refine ⟨_, rfl, _, rfl, _, _, rfl, rfl, .inl ⟨by decide, by decide⟩, _, _, rfl, rfl, _, _, rfl, rfl, _, _, rfl, rfl, (by show (0 : Int) < _; decide), _, _, rfl, rfl, .inr ⟨by decide, by decide⟩, _, _, rfl, rfl, (by show (0 : Int) < _; decide), ?_⟩
          dsimp only [gName]
          have b1 : 0 ≤ (rest + 7919 * (0 + (k : Int)) + 3) % 2147483647 * 48271 % 2147483647 ∧ (rest + 7919 * (0 + (k : Int)) + 3) % 2147483647 * 48271 % 2147483647 < 2147483647 := ⟨Int.emod_nonneg _ (by decide), Int.emod_lt_of_pos _ (by decide)⟩
          generalize (rest + 7919 * (0 + (k : Int)) + 3) % 2147483647 * 48271 % 2147483647 = st1 at b1 ⊢
          refine ⟨_, rfl, _, rfl, _, _, rfl, rfl, .inl ⟨by omega, by omega⟩, _, _, rfl, rfl, (by show (0 : Int) < _; decide), ?_⟩
          dsimp only [gName]
          have b2 : 0 ≤ st1 * st1 % 2147483629 ∧ st1 * st1 % 2147483629 < 2147483629 := ⟨Int.emod_nonneg _ (by decide), Int.emod_lt_of_pos _ (by decide)⟩
          generalize st1 * st1 % 2147483629 = st2 at b2 ⊢
          refine ⟨_, rfl, .inl ⟨rfl, _, SqL.of c1⟩, _, rfl, _, _, rfl, rfl, ⟨by decide, by decide⟩, _, _, rfl, rfl, (by show (0 : Int) < _; decide), D, _, _, rfl, rfl, c1, szl _ (by rw [List.length_map]; omega), ?_⟩
          dsimp only
          have c2 : upd H1 D (.lst (ds.map V.int ++ [.int (st2 / 16 % 1000)])) D = some (.lst ((ds ++ [st2 / 16 % 1000]).map V.int)) := by rw [upd_same, List.map_append]; rfl
          have k2 : Same H (upd H1 D (.lst (ds.map V.int ++ [.int (st2 / 16 % 1000)]))) := k1.at hD
          generalize upd H1 D (.lst (ds.map V.int ++ [.int (st2 / 16 % 1000)])) = H2 at c2 k2 ⊢
          refine ⟨_, rfl, .inl ⟨rfl, _, SqL.of c2⟩, _, rfl, _, _, rfl, rfl, ⟨by decide, by decide⟩, _, _, rfl, rfl, (by show (0 : Int) < _; decide), D, _, _, rfl, rfl, c2, szl _ (by rw [List.length_map, List.length_append]; show ds.length + 1 ≤ _; omega), ?_⟩
          dsimp only
          have c3 : upd H2 D (.lst ((ds ++ [st2 / 16 % 1000]).map V.int ++ [.int (st2 / 16000 % 1000)])) D = some (.lst ((ds ++ [st2 / 16 % 1000] ++ [st2 / 16000 % 1000]).map V.int)) := by rw [upd_same, List.map_append (l₁ := ds ++ _)]; rfl
          have k3 : Same H (upd H2 D (.lst ((ds ++ [st2 / 16 % 1000]).map V.int ++ [.int (st2 / 16000 % 1000)]))) := k2.at hD
          generalize upd H2 D (.lst ((ds ++ [st2 / 16 % 1000]).map V.int ++ [.int (st2 / 16000 % 1000)])) = H3 at c3 k3 ⊢
          refine ⟨_, rfl, _, rfl, _, _, rfl, rfl, _, _, rfl, rfl, .inl ⟨by decide, by decide⟩, _, _, rfl, rfl, _, _, rfl, rfl, (by show (0 : Int) < _; decide), ?_⟩
          dsimp only [gName]
          have b3 : 0 ≤ (st2 + 40692 * (0 + (k : Int) + 7)) % 2147483587 ∧ (st2 + 40692 * (0 + (k : Int) + 7)) % 2147483587 < 2147483587 := ⟨Int.emod_nonneg _ (by decide), Int.emod_lt_of_pos _ (by decide)⟩
          generalize (st2 + 40692 * (0 + (k : Int) + 7)) % 2147483587 = st3 at b3 ⊢
          refine ⟨_, rfl, .inl ⟨rfl, _, SqL.of c3⟩, _, rfl, _, rfl, _, _, rfl, rfl, .inl ⟨by omega, by omega⟩, _, _, rfl, rfl, (by show (0 : Int) < _; decide), _, _, rfl, rfl, ⟨by decide, by decide⟩, _, _, rfl, rfl, (by show (0 : Int) < _; decide), D, _, _, rfl, rfl, c3, szl _ (by rw [List.length_map, List.length_append, List.length_append]; show ds.length + 1 + 1 ≤ _; omega), ?_⟩
          refine ⟨ds ++ [st2 / 16 % 1000] ++ [st2 / 16000 % 1000] ++ [st3 * st3 % 2147483647 / 16 % 1000], _, _, _, _, rfl, ?_, ?_, app (app (app hd (m1000 _)) (m1000 _)) (m1000 _), k3.at hD⟩
          · rw [upd_same, List.map_append (l₁ := ds ++ [st2 / 16 % 1000] ++ [st2 / 16000 % 1000])]; rfl
          · rw [List.length_append, List.length_append, List.length_append]; show ds.length + 1 + 1 + 1 ≤ 63 * (k + 1); omega
        · -- a great one
          refine ⟨fun mm σ' H' => ∃ (rest m : Int) (es : List Int) (v4 : Option V), mm = (60 - m).toNat ∧ σ' = [some (.ref a), some (.ref D), some (.int (0 + (k : Nat))), some (.int rest), v4, some (.int m)] ∧ 0 ≤ m ∧ m ≤ 60 ∧ 0 ≤ rest ∧ H' D = some (.lst (es.map V.int)) ∧ (es.length : Int) ≤ 63 * k + m ∧ (∀ d ∈ es, 0 ≤ d ∧ d < 1000) ∧ Same H H', ⟨_, rest, 0, ds, _, rfl, rfl, by decide, by decide, hr0, c1, by omega, hd, k1⟩, ?_⟩
          clear c1 dl hd k1
          rintro mm σ' H2 ⟨rest, m, es, v4, rfl, rfl, m0, m1, r0, c2, el, he, k2⟩
          refine ⟨_, rfl, _, _, rfl, rfl, _, rfl, ?_⟩
          refine ite2 (fun z1 => ?_) (fun z1 => ?_)
          · refine ⟨_, rfl, _, _, rfl, rfl, _, rfl, ?_⟩
            refine ite2 (fun z2 => ?_) (fun z2 => ?_)
            · have z2' : m < 60 := of_decide_eq_true z2
              refine ⟨_, fun σ' H' y => y, ?_⟩
              refine ⟨_, rfl, .inl ⟨rfl, _, SqL.of c2⟩, _, rfl, _, _, rfl, rfl, (by show (0 : Int) < _; decide), D, _, _, rfl, rfl, c2, szl _ (by rw [List.length_map]; omega), ?_⟩
              refine ⟨_, rfl, _, _, rfl, rfl, ⟨by decide, by decide⟩, ?_⟩
              dsimp only [gName]
              refine ⟨_, rfl, _, _, rfl, rfl, ?_⟩
              refine ⟨(60 - (m + 1)).toNat, by omega, rest / 1000, m + 1, es ++ [rest % 1000], _, rfl, rfl, by omega, by omega, Int.ediv_nonneg r0 (by decide), ?_, ?_, app he (m1000 _), k2.at hD⟩
              · rw [upd_same, List.map_append]; rfl
              · rw [List.length_append]; show ((es.length + 1 : Nat) : Int) ≤ _; omega
            · exact ⟨es, _, _, _, _, rfl, c2, by omega, he, k2⟩
          · exact ⟨es, _, _, _, _, rfl, c2, by omega, he, k2⟩
      · rintro σ H1 ⟨ds, v2, v3, v4, v5, rfl, c1, dl, hd, k1⟩
        exact fin _ _ ⟨ds, _, _, _, _, rfl, c1, hd, k1⟩
    rintro σ1 H1 ⟨ds, v2, v3, v4, v5, rfl, c1, hd, k1⟩
    refine ⟨_, rfl, _, rfl, D, _, rfl, SqL.of c1, fun p hp => ?_⟩
    rw [cut_ints]
    refine q p _ (k1.free hp) (k1.trans (Same.new hp)) ⟨cutI ds none (some 240), upd_same, ?_, fun d h => hd d (cutI_mem h)⟩
    rw [cutI_to _ _ (by decide), List.length_take]
    exact Nat.min_le_left _ _
def x_law_take : { t : Stmt // top 21 = t } := ⟨_, by conv => { lhs; whnf }⟩
abbrev s_law_take : Stmt := x_law_take.1
theorem sc_law_take : FnScope ["draws", "many"] ["draws", "many"] (defScope s_law_take) := ⟨rfl, rfl, rfl, by decide +kernel, rfl, by decide +kernel, by decide +kernel⟩
theorem fn_take (B : Bl mg bls) (D : DefAt K mg "_law_take" s_law_take ["draws", "many"]) : Fn P w K mg base 1 "_law_take" ["draws", "many"] spTake := by
  refine D.fn sc_law_take (fun vs H Q E h => ?_) (fun f cdv A outer s H vs Q E hr h => ?_)
  · obtain ⟨p, many, rfl, _⟩ := h; rfl
  · obtain ⟨p, many, rfl, ⟨ds, c, dl, hd⟩, hm, q⟩ := h
    refine' ⟨_, ?tm, ?rd⟩
    (case tm =>
      (conv => { arg 2; whnf })
      refine' pss_cons ?s0 ?r0
      (case s0 =>
        refine' ps_if ?c0 ?a0 ?b0
        (case c0 => exact (pt_cmpR (op_eqLI hr.units) (pv 0) (pe_lst pa_nil) (nomark _)))
        (case a0 =>
          refine' pss_one ?s0i
          (case s0i =>
            exact (ps_ret pe_int)))
        (case b0 =>
          exact pss_nil))
      (case r0 =>
        refine' pss_one ?s0x
        (case s0x =>
          exact (ps_ret (pe_op op_mod (pe_bm PySem.F.plainAttrs_list PySem.F.slot_list_pop PySem.F.type_list_pop mt_popAt (pv 0) (pa_cons pe_int pa_nil)) (pv 1))))))
    refine ⟨_, rfl, (by show 0 ≤ sizeLine; decide), fun q1 hq1 => ?_⟩
    have s1 := Same.new (o := .lst []) hq1
    have c1 := s1 _ _ c
    refine ⟨p, q1, ds, [], rfl, rfl, SqL.of c1, SqL.of upd_same, _, rfl, ?_⟩
    generalize upd H q1 (.lst []) = H1 at s1 c1 ⊢
    refine ite2 (fun z => ?_) (fun z => ?_)
    · exact q 0 H1 (by decide) hm (by decide) ⟨ds, c1, dl, hd⟩ s1.but
    · have hne : ds ≠ [] := by simpa using z
      cases ds with
      | nil => exact absurd rfl hne
      | cons d r =>
        have hd0 := hd d List.mem_cons_self
        refine ⟨_, rfl, .inl ⟨rfl, _, SqL.of c1⟩, p, _, 0, 0, .int d, rfl, rfl, c1, by decide, by decide, ?_, rfl, _, rfl, _, _, rfl, rfl, hm, ?_⟩
        · unfold seqIndex?
          simp
        · refine q _ _ (Int.emod_nonneg _ (by omega)) (Int.emod_lt_of_pos _ hm) ?_ ⟨r, ?_, ?_, fun x hx => hd x (List.mem_cons_of_mem _ hx)⟩ (s1.but.trans (But.upd _))
          · by_cases h : d < many
            · rw [Int.emod_eq_of_lt hd0.1 h]; omega
            · have := Int.emod_lt_of_pos d hm; omega
          · rw [upd_same]; rfl
          · simp at dl; omega
end

end Law

set_option Elab.async false
set_option linter.all false
set_option maxRecDepth 100000
set_option maxHeartbeats 4000000
namespace Law
open PySem L2
def B13 (n : Int) : Prop := -10000000000000 ≤ n ∧ n ≤ 10000000000000
def spRow37 : Sp := fun vs H Q _ => ∃ (p : Addr) (most : Int), vs = [.ref p, .int most] ∧ Draws H p ∧ 0 ≤ most ∧ most ≤ 300 ∧ ∀ (a : Addr) (H' : Hp) (ns : List Int), H a = none → a ≠ p → But p H H' → Draws H' p → H' a = some (.lst (ns.map V.int)) → ns.length ≤ most.toNat → (∀ n ∈ ns, B13 n) → Q (.ref a) H'
abbrev BLs : List Int := [1, 2, 3, 10, 1000, 100000, 1000000000, 2000000000001]
theorem bls_bd {v : Int} (h : v ∈ BLs) : 1 ≤ v ∧ v ≤ 2000000000001 := by
  have h' : v = 1 ∨ v = 2 ∨ v = 3 ∨ v = 10 ∨ v = 1000 ∨ v = 100000 ∨ v = 1000000000 ∨ v = 2000000000001 := by simpa using h
  omega
theorem b2i_bd (b : Bool) : (0 : Int) ≤ (if b = true then 1 else 0) ∧ (if b = true then (1 : Int) else 0) < 2 := by cases b <;> decide
theorem num_bd {turn base : Int} (h0 : 0 ≤ turn) (h1 : turn < 9973) (b0 : 1 ≤ base) (b1 : base ≤ 2000000000001) : 0 ≤ turn * (base / 9973) ∧ turn * (base / 9973) ≤ 2000000000000 := by
  have q0 : 0 ≤ base / 9973 := Int.ediv_nonneg (by omega) (by decide)
  have q1 : base / 9973 ≤ 200541462 := by omega
  refine ⟨Int.mul_nonneg h0 q0, ?_⟩
  have := Int.mul_le_mul (show turn ≤ 9972 by omega) q1 q0 (by decide)
  omega
section
variable {P : Program} {w : World} {K : PySem.W.Frag} {mg : Str → Option Value} {base : Heap}
def x_law_row : { t : Stmt // top 22 = t } := ⟨_, by conv => { lhs; whnf }⟩
abbrev s_law_row : Stmt := x_law_row.1
theorem sc_law_row : FnScope ["draws", "most", "many", "bases", "base", "mixed", "wide", "top", "low", "one", "other", "third", "free", "likes", "found", "k", "at", "turn", "number", "shape"] ["draws", "most"] (defScope s_law_row) := ⟨rfl, rfl, rfl, by decide +kernel, rfl, by decide +kernel, by decide +kernel⟩
theorem fn_row37 (B : Bl mg bls) (D : DefAt K mg "_law_row" s_law_row ["draws", "most"]) (F_law_take : Fn P w K mg base 1 "_law_take" ["draws", "many"] spTake) : Fn P w K mg base 2 "_law_row" ["draws", "most"] spRow37 := by
  refine D.fn sc_law_row (fun vs H Q E h => ?_) (fun f cdv A outer s H vs Q E hr h => ?_)
  · obtain ⟨p, most, rfl, _⟩ := h; rfl
  · obtain ⟨p, most, rfl, hD, hm0, hm1, q⟩ := h
    refine' ⟨_, ?tm, ?rd⟩
    (case tm =>
      (conv => { arg 2; whnf })
      refine' pss_cons ?s0 ?r0
      (case s0 =>
        exact (ps_set (i := 2) sc_law_row.nd (by rfl) (by first | exact Or.inl rfl | exact Or.inr rfl) (pe_callB (call_min2 rfl) (by rfl) (B "min" (by decide +kernel)) (by decide +kernel) (pa_cons (pv 1) (pa_cons (pe_fn F_law_take hr (by rfl) (pa_cons (pv 0) (pa_cons pe_int pa_nil))) pa_nil)))))
      (case r0 =>
        refine' pss_cons ?s0x ?r0x
        (case s0x =>
          refine' ps_if ?c0x ?a0x ?b0x
          (case c0x => exact (pt_cmpR op_eq (pe_fn F_law_take hr (by rfl) (pa_cons (pv 0) (pa_cons pe_int pa_nil))) pe_int (nomark _)))
          (case a0x =>
            refine' pss_one ?s0xi
            (case s0xi =>
              exact (ps_set (i := 2) sc_law_row.nd (by rfl) (by first | exact Or.inl rfl | exact Or.inr rfl) (pe_ix ix_list (pe_lst (pa_cons (pv 1) (pa_cons (pe_fn F_law_take hr (by rfl) (pa_cons (pv 0) (pa_cons (pe_op op_add (pv 1) pe_int) pa_nil))) pa_nil))) (pe_fn F_law_take hr (by rfl) (pa_cons (pv 0) (pa_cons pe_int pa_nil))) (fun _ _ => rfl)))))
          (case b0x =>
            exact pss_nil))
        (case r0x =>
          refine' pss_cons ?s0xx ?r0xx
          (case s0xx =>
            exact (ps_set (i := 3) sc_law_row.nd (by rfl) (by first | exact Or.inl rfl | exact Or.inr rfl) (pe_lst (pa_cons pe_int (pa_cons pe_int (pa_cons pe_int (pa_cons pe_int (pa_cons pe_int (pa_cons (pe_op op_pow pe_int pe_int) (pa_cons (pe_op op_pow pe_int pe_int) (pa_cons (pe_op op_add (pe_op op_mul pe_int (pe_op op_pow pe_int pe_int)) pe_int) pa_nil)))))))))))
          (case r0xx =>
            refine' pss_cons ?s0xxx ?r0xxx
            (case s0xxx =>
              exact (ps_set (i := 4) sc_law_row.nd (by rfl) (by first | exact Or.inl rfl | exact Or.inr rfl) (pe_ix ix_list (pv 3) (pe_fn F_law_take hr (by rfl) (pa_cons (pv 0) (pa_cons pe_int pa_nil))) (fun _ _ => rfl))))
            (case r0xxx =>
              refine' pss_cons ?s0xxxx ?r0xxxx
              (case s0xxxx =>
                exact (ps_set (i := 5) sc_law_row.nd (by rfl) (by first | exact Or.inl rfl | exact Or.inr rfl) (pe_cmpR op_eq (pe_fn F_law_take hr (by rfl) (pa_cons (pv 0) (pa_cons pe_int pa_nil))) pe_int (nomark _))))
              (case r0xxxx =>
                refine' pss_cons ?s0xxxxx ?r0xxxxx
                (case s0xxxxx =>
                  exact (ps_set (i := 6) sc_law_row.nd (by rfl) (by first | exact Or.inl rfl | exact Or.inr rfl) (pe_ix ix_list (pe_lst (pa_cons (pv 4) (pa_cons (pe_ix ix_list (pv 3) pe_int (fun _ _ => rfl)) pa_nil))) (pe_callTy call_int1 (by rfl) (B "int" (by decide +kernel)) (by decide +kernel) (pa_cons (pv 5) pa_nil)) (fun _ _ => rfl))))
                (case r0xxxxx =>
                  refine' pss_cons ?s0xxxxxx ?r0xxxxxx
                  (case s0xxxxxx =>
                    exact (ps_set (i := 7) sc_law_row.nd (by rfl) (by first | exact Or.inl rfl | exact Or.inr rfl) (pe_op op_add (pe_op op_sub (pe_op op_pow pe_int pe_int) (pv 6)) pe_int)))
                  (case r0xxxxxx =>
                    refine' pss_cons ?s0xxxxxxx ?r0xxxxxxx
                    (case s0xxxxxxx =>
                      exact (ps_set (i := 8) sc_law_row.nd (by rfl) (by first | exact Or.inl rfl | exact Or.inr rfl) (pe_ix ix_list (pe_lst (pa_cons (pe_op op_sub pe_int (pe_op op_fdiv (pv 6) pe_int)) (pa_cons (pe_op op_sub pe_int (pe_op op_pow pe_int pe_int)) (pa_cons (pv 7) (pa_cons (pe_callB (call_min2 rfl) (by rfl) (B "min" (by decide +kernel)) (by decide +kernel) (pa_cons pe_int (pa_cons (pv 7) pa_nil))) pa_nil))))) (pe_fn F_law_take hr (by rfl) (pa_cons (pv 0) (pa_cons pe_int pa_nil))) (fun _ _ => rfl))))
                    (case r0xxxxxxx =>
                      refine' pss_cons ?s0xxxxxxxx ?r0xxxxxxxx
                      (case s0xxxxxxxx =>
                        exact (ps_set (i := 9) sc_law_row.nd (by rfl) (by first | exact Or.inl rfl | exact Or.inr rfl) (pe_fn F_law_take hr (by rfl) (pa_cons (pv 0) (pa_cons pe_int pa_nil)))))
                      (case r0xxxxxxxx =>
                        refine' pss_cons ?s0xxxxxxxxx ?r0xxxxxxxxx
                        (case s0xxxxxxxxx =>
                          exact (ps_set (i := 10) sc_law_row.nd (by rfl) (by first | exact Or.inl rfl | exact Or.inr rfl) (pe_op op_add pe_int (pe_fn F_law_take hr (by rfl) (pa_cons (pv 0) (pa_cons pe_int pa_nil))))))
                        (case r0xxxxxxxxx =>
                          refine' pss_cons ?s0xxxxxxxxxx ?r0xxxxxxxxxx
                          (case s0xxxxxxxxxx =>
                            exact (ps_set (i := 11) sc_law_row.nd (by rfl) (by first | exact Or.inl rfl | exact Or.inr rfl) (pe_fn F_law_take hr (by rfl) (pa_cons (pv 0) (pa_cons pe_int pa_nil)))))
                          (case r0xxxxxxxxxx =>
                            refine' pss_cons ?s0xxxxxxxxxxx ?r0xxxxxxxxxxx
                            (case s0xxxxxxxxxxx =>
                              exact (ps_set (i := 12) sc_law_row.nd (by rfl) (by first | exact Or.inl rfl | exact Or.inr rfl) (pe_cmpR op_eq (pe_fn F_law_take hr (by rfl) (pa_cons (pv 0) (pa_cons pe_int pa_nil))) pe_int (nomark _))))
                            (case r0xxxxxxxxxxx =>
                              refine' pss_cons ?s0xxxxxxxxxxxx ?r0xxxxxxxxxxxx
                              (case s0xxxxxxxxxxxx =>
                                exact (ps_set (i := 13) sc_law_row.nd (by rfl) (by first | exact Or.inl rfl | exact Or.inr rfl) (pe_ix ix_list (pe_lst (pa_cons pe_int (pa_cons pe_int (pa_cons (pe_op op_add pe_int (pe_fn F_law_take hr (by rfl) (pa_cons (pv 0) (pa_cons pe_int pa_nil)))) pa_nil)))) (pe_fn F_law_take hr (by rfl) (pa_cons (pv 0) (pa_cons pe_int pa_nil))) (fun _ _ => rfl))))
                              (case r0xxxxxxxxxxxx =>
                                refine' pss_cons ?s0xxxxxxxxxxxxx ?r0xxxxxxxxxxxxx
                                (case s0xxxxxxxxxxxxx =>
                                  exact (ps_set (i := 14) sc_law_row.nd (by rfl) (by first | exact Or.inl rfl | exact Or.inr rfl) (pe_lst pa_nil)))
                                (case r0xxxxxxxxxxxxx =>
                                  refine' pss_cons ?s0xxxxxxxxxxxxxx ?r0xxxxxxxxxxxxxx
                                  (case s0xxxxxxxxxxxxxx =>
                                    refine' ps_for PassesOwn.never (by rfl) ?i0xxxxxxxxxxxxxx ?g0xxxxxxxxxxxxxx ?d0xxxxxxxxxxxxxx
                                    (case i0xxxxxxxxxxxxxx => exact (pi_range1 (by rfl) (B "range" (by decide +kernel)) (pa_cons (pv 2) pa_nil)))
                                    (case g0xxxxxxxxxxxxxx => exact (pg_name (i := 15) sc_law_row.nd (by rfl) (by first | exact Or.inl rfl | exact Or.inr rfl)))
                                    (case d0xxxxxxxxxxxxxx =>
                                      refine' pss_cons ?s0xxxxxxxxxxxxxxf ?r0xxxxxxxxxxxxxxf
                                      (case s0xxxxxxxxxxxxxxf =>
                                        exact (ps_set (i := 16) sc_law_row.nd (by rfl) (by first | exact Or.inl rfl | exact Or.inr rfl) (pe_op op_fdiv (pv 15) (pv 13))))
                                      (case r0xxxxxxxxxxxxxxf =>
                                        refine' pss_cons ?s0xxxxxxxxxxxxxxfx ?r0xxxxxxxxxxxxxxfx
                                        (case s0xxxxxxxxxxxxxxfx =>
                                          exact (ps_set (i := 17) sc_law_row.nd (by rfl) (by first | exact Or.inl rfl | exact Or.inr rfl) (pe_op op_mod (pe_op op_add (pe_op op_add (pe_op op_add (pe_op op_mul (pe_op op_mul (pv 16) (pv 16)) (pv 9)) (pe_op op_mul (pv 16) (pv 10))) (pe_op op_mul (pe_op op_fdiv (pv 16) pe_int) pe_int)) (pv 11)) pe_int)))
                                        (case r0xxxxxxxxxxxxxxfx =>
                                          refine' pss_cons ?s0xxxxxxxxxxxxxxfxx ?r0xxxxxxxxxxxxxxfxx
                                          (case s0xxxxxxxxxxxxxxfxx =>
                                            refine' ps_if ?c0xxxxxxxxxxxxxxfxx ?a0xxxxxxxxxxxxxxfxx ?b0xxxxxxxxxxxxxxfxx
                                            (case c0xxxxxxxxxxxxxxfxx => exact (pt_val (pv 5)))
                                            (case a0xxxxxxxxxxxxxxfxx =>
                                              refine' pss_one ?s0xxxxxxxxxxxxxxfxxi
                                              (case s0xxxxxxxxxxxxxxfxxi =>
                                                exact (ps_set (i := 4) sc_law_row.nd (by rfl) (by first | exact Or.inl rfl | exact Or.inr rfl) (pe_ix ix_list (pv 3) (pe_op op_mod (pe_op op_add (pv 17) (pe_op op_mul (pv 16) (pv 16))) pe_int) (fun _ _ => rfl)))))
                                            (case b0xxxxxxxxxxxxxxfxx =>
                                              exact pss_nil))
                                          (case r0xxxxxxxxxxxxxxfxx =>
                                            refine' pss_cons ?s0xxxxxxxxxxxxxxfxxx ?r0xxxxxxxxxxxxxxfxxx
                                            (case s0xxxxxxxxxxxxxxfxxx =>
                                              refine' ps_if ?c0xxxxxxxxxxxxxxfxxx ?a0xxxxxxxxxxxxxxfxxx ?b0xxxxxxxxxxxxxxfxxx
                                              (case c0xxxxxxxxxxxxxxfxxx => exact (PW.pt (pw_or (pt_cmpR op_lt (pv 2) pe_int (nomark _)) (pw_or1 (PW.pt (pw_and (pt_val (pv 12)) (pw_and1 (pt_cmpR op_gt (pe_callB call_len_seq (by rfl) (B "len" (by decide +kernel)) (by decide +kernel) (pa_cons (pv 0) pa_nil)) pe_int (nomark _)))))))))
                                              (case a0xxxxxxxxxxxxxxfxxx =>
                                                refine' pss_one ?s0xxxxxxxxxxxxxxfxxxi
                                                (case s0xxxxxxxxxxxxxxfxxxi =>
                                                  exact (ps_set (i := 17) sc_law_row.nd (by rfl) (by first | exact Or.inl rfl | exact Or.inr rfl) (pe_fn F_law_take hr (by rfl) (pa_cons (pv 0) (pa_cons pe_int pa_nil))))))
                                              (case b0xxxxxxxxxxxxxxfxxx =>
                                                exact pss_nil))
                                            (case r0xxxxxxxxxxxxxxfxxx =>
                                              refine' pss_cons ?s0xxxxxxxxxxxxxxfxxxx ?r0xxxxxxxxxxxxxxfxxxx
                                              (case s0xxxxxxxxxxxxxxfxxxx =>
                                                exact (ps_set (i := 18) sc_law_row.nd (by rfl) (by first | exact Or.inl rfl | exact Or.inr rfl) (pe_ix ix_list (pe_lst (pa_cons (pe_op op_mod (pv 17) (pv 4)) (pa_cons (pe_op op_add (pe_op op_mul (pv 17) (pe_op op_fdiv (pv 4) pe_int)) (pe_op op_mod (pv 17) pe_int)) pa_nil))) (pe_callTy call_int1 (by rfl) (B "int" (by decide +kernel)) (by decide +kernel) (pa_cons (pe_cmpR op_gt (pv 4) pe_int (nomark _)) pa_nil)) (fun _ _ => rfl))))
                                              (case r0xxxxxxxxxxxxxxfxxxx =>
                                                refine' pss_one ?s0xxxxxxxxxxxxxxfxxxxx
                                                (case s0xxxxxxxxxxxxxxfxxxxx =>
                                                  exact (ps_expr (pe_bm PySem.F.plainAttrs_list PySem.F.slot_list_append PySem.F.type_list_append mt_append (pv 14) (pa_cons (pe_op op_add (pv 8) (pe_ix ix_list (pe_lst (pa_cons (pv 18) (pa_cons (pe_op op_sub (pv 4) pe_int) pa_nil))) (pe_callTy call_int1 (by rfl) (B "int" (by decide +kernel)) (by decide +kernel) (pa_cons (pe_cmpR op_eq (pe_op op_mod (pv 17) pe_int) pe_int (nomark _)) pa_nil)) (fun _ _ => rfl))) pa_nil)))))))))))
                                  (case r0xxxxxxxxxxxxxx =>
                                    refine' pss_cons ?s0xxxxxxxxxxxxxxx ?r0xxxxxxxxxxxxxxx
                                    (case s0xxxxxxxxxxxxxxx =>
                                      exact (ps_set (i := 19) sc_law_row.nd (by rfl) (by first | exact Or.inl rfl | exact Or.inr rfl) (pe_fn F_law_take hr (by rfl) (pa_cons (pv 0) (pa_cons pe_int pa_nil)))))
                                    (case r0xxxxxxxxxxxxxxx =>
                                      refine' pss_cons ?s0xxxxxxxxxxxxxxxx ?r0xxxxxxxxxxxxxxxx
                                      (case s0xxxxxxxxxxxxxxxx =>
                                        refine' ps_if ?c0xxxxxxxxxxxxxxxx ?a0xxxxxxxxxxxxxxxx ?b0xxxxxxxxxxxxxxxx
                                        (case c0xxxxxxxxxxxxxxxx => exact (pt_cmpR op_eq (pv 19) pe_int (nomark _)))
                                        (case a0xxxxxxxxxxxxxxxx =>
                                          refine' pss_one ?s0xxxxxxxxxxxxxxxxi
                                          (case s0xxxxxxxxxxxxxxxxi =>
                                            exact (ps_ret (pe_callB cr_sortedA (by rfl) (B "sorted" (by decide +kernel)) (by decide +kernel) (pa_cons (pv 14) pa_nil)))))
                                        (case b0xxxxxxxxxxxxxxxx =>
                                          exact pss_nil))
                                      (case r0xxxxxxxxxxxxxxxx =>
                                        refine' pss_cons ?s0xxxxxxxxxxxxxxxxx ?r0xxxxxxxxxxxxxxxxx
                                        (case s0xxxxxxxxxxxxxxxxx =>
                                          refine' ps_if ?c0xxxxxxxxxxxxxxxxx ?a0xxxxxxxxxxxxxxxxx ?b0xxxxxxxxxxxxxxxxx
                                          (case c0xxxxxxxxxxxxxxxxx => exact (pt_cmpR op_eq (pv 19) pe_int (nomark _)))
                                          (case a0xxxxxxxxxxxxxxxxx =>
                                            refine' pss_one ?s0xxxxxxxxxxxxxxxxxi
                                            (case s0xxxxxxxxxxxxxxxxxi =>
                                              exact (ps_ret (pe_rev (pe_callB cr_sortedA (by rfl) (B "sorted" (by decide +kernel)) (by decide +kernel) (pa_cons (pv 14) pa_nil))))))
                                          (case b0xxxxxxxxxxxxxxxxx =>
                                            exact pss_nil))
                                        (case r0xxxxxxxxxxxxxxxxx =>
                                          refine' pss_cons ?s0xxxxxxxxxxxxxxxxxx ?r0xxxxxxxxxxxxxxxxxx
                                          (case s0xxxxxxxxxxxxxxxxxx =>
                                            refine' ps_if ?c0xxxxxxxxxxxxxxxxxx ?a0xxxxxxxxxxxxxxxxxx ?b0xxxxxxxxxxxxxxxxxx
                                            (case c0xxxxxxxxxxxxxxxxxx => exact (pt_cmpR op_eq (pv 19) pe_int (nomark _)))
                                            (case a0xxxxxxxxxxxxxxxxxx =>
                                              refine' pss_one ?s0xxxxxxxxxxxxxxxxxxi
                                              (case s0xxxxxxxxxxxxxxxxxxi =>
                                                exact (ps_ret (pe_op op_cat (pe_callB cr_sortedA (by rfl) (B "sorted" (by decide +kernel)) (by decide +kernel) (pa_cons (pe_step (pv 14) po_none po_none (by decide)) pa_nil)) (pe_rev (pe_callB cr_sortedA (by rfl) (B "sorted" (by decide +kernel)) (by decide +kernel) (pa_cons (pe_step (pv 14) (po_some pe_int) po_none (by decide)) pa_nil)))))))
                                            (case b0xxxxxxxxxxxxxxxxxx =>
                                              exact pss_nil))
                                          (case r0xxxxxxxxxxxxxxxxxx =>
                                            refine' pss_one ?s0xxxxxxxxxxxxxxxxxxx
                                            (case s0xxxxxxxxxxxxxxxxxxx =>
                                              exact (ps_ret (pv 14)))))))))))))))))))))))
    refine seqJ (fun σ' H' => ∃ many : Int, σ' = [some (.ref p), some (.int most), some (.int many), none, none, none, none, none, none, none, none, none, none, none, none, none, none, none, none, none] ∧ 0 ≤ many ∧ many ≤ most ∧ But p H H' ∧ Draws H' p) (fun fin => ?_) ?_
    · refine ⟨_, rfl, _, rfl, p, _, rfl, hD, by decide, fun g1 H1 a1 b1 _ hD1 k1 => ⟨_, _, rfl, ?_⟩⟩
      refine fin _ _ ⟨_, rfl, ?_, ?_, k1, hD1⟩
      · split <;> omega
      · split <;> omega
    clear hD
    rintro _ H1 ⟨many, rfl, n0, n1, k1, hD1⟩
    refine seqJ (fun σ' H' => ∃ many : Int, σ' = [some (.ref p), some (.int most), some (.int many), none, none, none, none, none, none, none, none, none, none, none, none, none, none, none, none, none] ∧ 0 ≤ many ∧ many ≤ most ∧ But p H H' ∧ Draws H' p) (fun fin => ?_) ?_
    · refine ⟨_, rfl, p, _, rfl, hD1, by decide, fun g1 H2 a1 b1 _ hD2 k2 => ?_⟩
      refine ⟨rfl, _, rfl, ?_⟩
      refine ite2 (fun _ => ?_) (fun _ => fin _ _ ⟨many, rfl, n0, n1, k1.trans k2, hD2⟩)
      refine ⟨_, rfl, _, rfl, _, rfl, _, _, rfl, rfl, p, _, rfl, hD2, by omega, fun g2 H3 a2 b2 _ hD3 k3 => ?_⟩
      refine ⟨(by show 2 ≤ sizeLine; decide), fun q1 hq1 => ?_⟩
      have nq := hD3.ne hq1
      refine ⟨_, rfl, p, _, rfl, hD3.new hq1, by decide, fun g3 H4 a3 b3 _ hD4 k4 => ?_⟩
      obtain ⟨v, hv, ev⟩ := at_pick (ns := [most, g2]) a3 b3
      have hv' : v = most ∨ v = g2 := by simpa using hv
      exact ⟨_, _, _, _, rfl, rfl, SqL.of (k4 _ _ nq upd_same), ev, fin _ _ ⟨v, rfl, by omega, by omega, (((k1.trans k2).trans k3).trans (But.new hq1)).trans k4, hD4⟩⟩
    clear hD1 k1 n0 n1 many H1
    rintro _ H1 ⟨many, rfl, n0, n1, k1, hD1⟩
    -- bases
    refine ⟨_, _, rfl, rfl, ⟨by decide, by decide, by decide⟩, _, _, rfl, rfl, ⟨by decide, by decide, by decide⟩, _, _, rfl, rfl, ⟨by decide, by decide, by decide⟩, _, _, rfl, rfl, .inl ⟨by decide, by decide⟩, _, _, rfl, rfl, (by show 8 ≤ sizeLine; decide), fun Bs hBs => ?_⟩
    have nB := hD1.ne hBs
    have fB : H Bs = none := free_of_but k1 hD1.some hBs
    have k2 := k1.trans (But.new (p := p) (o := .lst (BLs.map V.int)) hBs)
    have hD2 := hD1.new (o := .lst (BLs.map V.int)) hBs
    have cB2 : upd H1 Bs (.lst (BLs.map V.int)) Bs = some (.lst (BLs.map V.int)) := upd_same
    have eB : ([.int 1, .int 2, .int 3, .int 10, .int 1000, .int (10 ^ Int.toNat 5), .int (10 ^ Int.toNat 9), .int (2 * 10 ^ Int.toNat 12 + 1)] : List V) = BLs.map V.int := by rfl
    dsimp only [gName]
    rw [eB]
    generalize upd H1 Bs (.lst (BLs.map V.int)) = H2 at k2 hD2 cB2 ⊢
    clear k1 hD1
    -- base
    refine ⟨_, rfl, _, rfl, p, _, rfl, hD2, by decide, fun g3 H3 a3 b3 _ hD3 k3 => ?_⟩
    obtain ⟨base0, hb0, eb0⟩ := at_pick (ns := BLs) a3 b3
    have cB3 := k3 _ _ nB cB2
    refine ⟨_, _, _, _, rfl, rfl, SqL.of cB3, eb0, ?_⟩
    have bb := bls_bd hb0
    dsimp only [gName]
    -- mixed
    refine ⟨_, rfl, p, _, rfl, hD3, by decide, fun g4 H4 a4 b4 _ hD4 k4 => ⟨rfl, ?_⟩⟩
    dsimp only [gName]
    generalize decide (V.int g4 = V.int 1) = mixed
    have cB4 := k4 _ _ nB cB3
    have kk4 := (k2.trans k3).trans k4
    -- wide
    refine ⟨_, rfl, _, rfl, _, _, _, _, rfl, rfl, SqL.of cB4, rfl, (by show 2 ≤ sizeLine; decide), fun q2 hq2 => ?_⟩
    refine ⟨_, rfl, .inr ⟨_, rfl, ?_⟩⟩
    have m2 := b2i_bd mixed
    generalize (if mixed = true then (1 : Int) else 0) = mi at m2 ⊢
    obtain ⟨wide, hw, ew⟩ := at_pick (ns := [base0, 2000000000001]) m2.1 m2.2
    have hwb : 1 ≤ wide ∧ wide ≤ 2000000000001 := by
      have : wide = base0 ∨ wide = 2000000000001 := by simpa using hw
      omega
    refine ⟨_, _, _, _, rfl, rfl, SqL.of upd_same, ew, ?_⟩
    have s5 := Same.new (o := .lst [.int base0, .int 2000000000001]) hq2
    have cB5 := s5 _ _ cB4
    have kk5 := kk4.trans s5.but
    have hD5 := hD4.same s5
    dsimp only [gName]
    generalize upd H4 q2 _ = H5 at s5 cB5 kk5 hD5 ⊢
    clear k2 k3 k4 kk4 hD2 hD3 hD4 cB2 cB3 cB4 s5
    -- top
    refine ⟨_, _, rfl, rfl, ⟨by decide, by decide, by decide⟩, _, rfl, _, _, rfl, rfl, _, _, rfl, rfl, ?_⟩
    dsimp only [gName]
    -- low
    refine ⟨_, rfl, _, _, rfl, rfl, ⟨by decide, by decide⟩, _, _, rfl, rfl, _, _, rfl, rfl, ⟨by decide, by decide, by decide⟩, _, _, rfl, rfl, _, rfl, _, rfl, _, _, rfl, (by show 4 ≤ sizeLine; decide), fun q3 hq3 => ?_⟩
    have nq3 := hD5.ne hq3
    have e12 : (10 : Int) ^ Int.toNat 12 = 1000000000000 := by decide
    dsimp only
    rw [e12]
    refine ⟨_, rfl, p, _, rfl, hD5.new hq3, by decide, fun g6 H6 a6 b6 _ hD6 k6 => ?_⟩
    obtain ⟨low, hlow, elow⟩ := at_pick (ns := [0 - wide / 2, 0 - 1000000000000, 1000000000000 - wide + 1, if 1000000000000 - wide + 1 < 0 then 1000000000000 - wide + 1 else 0]) a6 b6
    have hlb : -2000000000000 ≤ low ∧ low ≤ 2000000000000 := by
      have : low = 0 - wide / 2 ∨ low = 0 - 1000000000000 ∨ low = 1000000000000 - wide + 1 ∨ low = (if 1000000000000 - wide + 1 < 0 then 1000000000000 - wide + 1 else 0) := by simpa using hlow
      rcases this with e | e | e | e
      · omega
      · omega
      · omega
      · rw [e]; split <;> omega
    refine ⟨_, _, _, _, rfl, rfl, SqL.of (k6 _ _ nq3 upd_same), elow, ?_⟩
    have kk6 := (kk5.trans (But.new hq3)).trans k6
    have cB6 := k6 _ _ nB ((Same.new hq3) _ _ cB5)
    dsimp only [gName]
    clear kk5 cB5 hD5 k6
    -- one, other, third, free
    refine ⟨_, rfl, p, _, rfl, hD6, by decide, fun one H7 a7 b7 _ hD7 k7 => ?_⟩
    dsimp only [gName]
    refine ⟨_, rfl, p, _, rfl, hD7, by decide, fun other H8 a8 b8 _ hD8 k8 => ⟨_, _, rfl, rfl, ?_⟩⟩
    dsimp only [gName]
    refine ⟨_, rfl, p, _, rfl, hD8, by decide, fun third H9 a9 b9 _ hD9 k9 => ?_⟩
    dsimp only [gName]
    refine ⟨_, rfl, p, _, rfl, hD9, by decide, fun g10 H10 a10 b10 _ hD10 k10 => ⟨rfl, ?_⟩⟩
    dsimp only [gName]
    generalize decide (V.int g10 = V.int 1) = free
    have kk10 := (((kk6.trans k7).trans k8).trans k9).trans k10
    have cB10 := k10 _ _ nB (k9 _ _ nB (k8 _ _ nB (k7 _ _ nB cB6)))
    clear kk6 k7 k8 k9 k10 cB6 hD6 hD7 hD8 hD9
    -- likes
    refine ⟨_, rfl, p, _, rfl, hD10, by decide, fun g11 H11 a11 b11 _ hD11 k11 => ⟨_, _, rfl, rfl, ?_⟩⟩
    refine ⟨(by show 3 ≤ sizeLine; decide), fun q4 hq4 => ?_⟩
    have nq4 := hD11.ne hq4
    refine ⟨_, rfl, p, _, rfl, hD11.new hq4, by decide, fun g12 H12 a12 b12 _ hD12 k12 => ?_⟩
    obtain ⟨likes, hlk, elk⟩ := at_pick (ns := [1, 1, 1 + g11]) a12 b12
    have hlkb : 1 ≤ likes ∧ likes ≤ 20 := by
      have : likes = 1 ∨ likes = 1 ∨ likes = 1 + g11 := by simpa using hlk
      omega
    refine ⟨_, _, _, _, rfl, rfl, SqL.of (k12 _ _ nq4 upd_same), elk, ?_⟩
    have kk12 := ((kk10.trans k11).trans (But.new hq4)).trans k12
    have cB12 := k12 _ _ nB ((Same.new hq4) _ _ (k11 _ _ nB cB10))
    dsimp only [gName]
    clear kk10 k11 k12 cB10 hD10 hD11
    -- found
    refine ⟨(by show 0 ≤ sizeLine; decide), fun F hF => ?_⟩
    have nF := hD12.ne hF
    have fF : H F = none := free_of_but kk12 hD12.some hF
    have nBF : Bs ≠ F := fun z => by rw [z, hF] at cB12; cases cB12
    have s13 := Same.new (o := .lst []) hF
    have cF13 : upd H12 F (.lst []) F = some (.lst (([] : List Int).map V.int)) := upd_same
    have kk13 := kk12.trans s13.but
    have cB13 := s13 _ _ cB12
    have hD13 := hD12.same s13
    dsimp only [gName]
    generalize upd H12 F (.lst []) = H13 at s13 cF13 kk13 cB13 hD13 ⊢
    clear kk12 cB12 hD12 s13
    refine seqJ (fun σ' H' => ∃ (fs : List Int) (base1 : Int) (v15 v16 v17 v18 : Option V), σ' = [some (.ref p), some (.int most), some (.int many), some (.ref Bs), some (.int base1), some (.bl mixed), some (.int wide), some (.int (1000000000000 - wide + 1)), some (.int low), some (.int one), some (.int (1 + other)), some (.int third), some (.bl free), some (.int likes), some (.ref F), v15, v16, v17, v18, none] ∧ H' F = some (.lst (fs.map V.int)) ∧ fs.length = many.toNat ∧ (∀ n ∈ fs, B13 n) ∧ But p H H' ∧ Draws H' p) (fun fin => ?_) ?_
    · refine ⟨_, rfl, many, rfl, by omega, by omega, for_range (lo := 0) (n := many.toNat) (fun i σ' H' => ∃ (fs : List Int) (base1 : Int) (v15 v16 v17 v18 : Option V), σ' = [some (.ref p), some (.int most), some (.int many), some (.ref Bs), some (.int base1), some (.bl mixed), some (.int wide), some (.int (1000000000000 - wide + 1)), some (.int low), some (.int one), some (.int (1 + other)), some (.int third), some (.bl free), some (.int likes), some (.ref F), v15, v16, v17, v18, none] ∧ 1 ≤ base1 ∧ base1 ≤ 2000000000001 ∧ H' F = some (.lst (fs.map V.int)) ∧ fs.length = i ∧ (∀ n ∈ fs, B13 n) ∧ But p H H' ∧ Draws H' p ∧ H' Bs = some (.lst (BLs.map V.int))) ⟨[], base0, _, _, _, _, rfl, bb.1, bb.2, cF13, rfl, (fun n hn => nomatch hn), kk13, hD13, cB13⟩ ?_ ?_⟩
      · clear kk13 cB13 hD13 cF13
        rintro i σ' H14 hi ⟨fs, base1, v15, v16, v17, v18, rfl, bs0, bs1, cF, fl, hf, k14, hD14, cB14⟩
        have hi300 : (i : Int) < 300 := by omega
        -- at
        refine ⟨_, rfl, _, rfl, _, _, rfl, rfl, ⟨by omega, by omega⟩, ?_⟩
        have at0 : 0 ≤ (0 + (i : Int)) / likes := Int.ediv_nonneg (by omega) (by omega)
        have at1 : (0 + (i : Int)) / likes < 300 := Int.ediv_lt_of_lt_mul (by omega) (by
          have : (300 : Int) * 1 ≤ 300 * likes := Int.mul_le_mul_of_nonneg_left (by omega) (by decide)
          omega)
        dsimp only [gName]
        generalize (0 + (i : Int)) / likes = at' at at0 at1 ⊢
        have aa : 0 ≤ at' * at' ∧ at' * at' < 90000 := by
          refine ⟨Int.mul_nonneg at0 at0, ?_⟩
          have := Int.mul_le_mul (show at' ≤ 299 by omega) (show at' ≤ 299 by omega) at0 (by decide)
          omega
        -- turn
        refine ⟨_, rfl, _, rfl, _, _, rfl, rfl, .inl ⟨by omega, by omega⟩, _, rfl, _, _, rfl, rfl, .inr ⟨by omega, by omega⟩, _, rfl, _, rfl, _, _, rfl, rfl, .inl ⟨by omega, by omega⟩, _, _, rfl, rfl, ?_⟩
        refine ⟨_, rfl, _, _, rfl, rfl, ⟨by decide, by decide⟩, _, _, rfl, rfl, .inr ⟨by decide, by decide⟩, _, _, rfl, rfl, _, rfl, _, _, rfl, rfl, _, _, rfl, rfl, (by show (0 : Int) < _; decide), ?_⟩
        dsimp only [gName]
        have tb : 0 ≤ (at' * at' * one + at' * (1 + other) + at' / 7 * 31 + third) % 9973 ∧ (at' * at' * one + at' * (1 + other) + at' / 7 * 31 + third) % 9973 < 9973 := ⟨Int.emod_nonneg _ (by decide), Int.emod_lt_of_pos _ (by decide)⟩
        generalize (at' * at' * one + at' * (1 + other) + at' / 7 * 31 + third) % 9973 = turn0 at tb ⊢
        -- if mixed
        refine seqJ (fun σ' H' => ∃ base1 : Int, σ' = [some (.ref p), some (.int most), some (.int many), some (.ref Bs), some (.int base1), some (.bl mixed), some (.int wide), some (.int (1000000000000 - wide + 1)), some (.int low), some (.int one), some (.int (1 + other)), some (.int third), some (.bl free), some (.int likes), some (.ref F), some (.int (0 + (i : Int))), some (.int at'), some (.int turn0), v18, none] ∧ 1 ≤ base1 ∧ base1 ≤ 2000000000001 ∧ H' = H14) (fun fin2 => ?_) ?_
        · refine ⟨_, rfl, _, rfl, ?_⟩
          cases mixed with
          | false => exact fin2 _ _ ⟨base1, rfl, bs0, bs1, rfl⟩
          | true =>
            refine ⟨_, rfl, _, rfl, _, rfl, _, rfl, _, _, rfl, rfl, .inl ⟨by omega, by omega⟩, _, _, rfl, rfl, _, _, rfl, rfl, (by show (0 : Int) < _; decide), ?_⟩
            obtain ⟨b2, hb2, eb2⟩ := at_pick (ns := BLs) (i := (turn0 + at' * at') % 8) (Int.emod_nonneg _ (by decide)) (Int.emod_lt_of_pos _ (by decide))
            have := bls_bd hb2
            exact ⟨_, _, _, _, rfl, rfl, SqL.of cB14, eb2, fin2 _ _ ⟨b2, rfl, this.1, this.2, rfl⟩⟩
        clear bs0 bs1 base1
        rintro _ H14 ⟨base1, rfl, bs0, bs1, rfl⟩
        -- if many < 13 ..
        refine seqJ (fun σ' H' => ∃ turn : Int, σ' = [some (.ref p), some (.int most), some (.int many), some (.ref Bs), some (.int base1), some (.bl mixed), some (.int wide), some (.int (1000000000000 - wide + 1)), some (.int low), some (.int one), some (.int (1 + other)), some (.int third), some (.bl free), some (.int likes), some (.ref F), some (.int (0 + (i : Int))), some (.int at'), some (.int turn), v18, none] ∧ 0 ≤ turn ∧ turn < 9973 ∧ But p H14 H' ∧ Draws H' p) (fun fin2 => ?_) ?_
        · have go := fun (turn : Int) (H' : Hp) (h0 : 0 ≤ turn) (h1 : turn < 9973) (kx : But p H14 H') (hx : Draws H' p) => fin2 _ _ ⟨turn, rfl, h0, h1, kx, hx⟩
          refine ⟨_, rfl, _, _, rfl, rfl, _, rfl, ?_⟩
          refine ite2 (fun _ => ?_) (fun _ => ?_)
          · exact ⟨_, rfl, p, _, rfl, hD14, by decide, fun g H15 g0 g1 _ hD15 k15 => go g H15 g0 (by omega) k15 hD15⟩
          · refine ⟨_, rfl, _, rfl, ?_⟩
            cases free with
            | false => exact go turn0 H14 tb.1 tb.2 (But.refl _ _) hD14
            | true =>
              obtain ⟨ds, cds, _, _⟩ := id hD14
              refine ⟨_, rfl, p, _, rfl, .inl (SqL.of cds), _, _, rfl, rfl, _, rfl, ?_⟩
              refine ite2 (fun _ => ?_) (fun _ => go turn0 H14 tb.1 tb.2 (But.refl _ _) hD14)
              exact ⟨_, rfl, p, _, rfl, hD14, by decide, fun g H15 g0 g1 _ hD15 k15 => go g H15 g0 (by omega) k15 hD15⟩
        rintro _ H15 ⟨turn, rfl, t0, t1, k15, hD15⟩
        have cF15 := k15 _ _ nF cF
        have cB15 := k15 _ _ nB cB14
        have kk15 := k14.trans k15
        have nb := num_bd t0 t1 bs0 bs1
        have tb2 : 0 ≤ turn % base1 ∧ turn % base1 ≤ turn := ⟨Int.emod_nonneg _ (by omega), by
          by_cases h : turn < base1
          · rw [Int.emod_eq_of_lt t0 h]; exact Int.le_refl _
          · have := Int.emod_lt_of_pos turn (show 0 < base1 by omega); omega⟩
        have t7 : 0 ≤ turn % 7 ∧ turn % 7 < 7 := ⟨Int.emod_nonneg _ (by decide), Int.emod_lt_of_pos _ (by decide)⟩
        -- number
        refine ⟨_, rfl, _, rfl, _, _, rfl, rfl, (by show (0 : Int) < base1; omega), _, rfl, _, rfl, _, _, rfl, rfl, ⟨by decide, by decide⟩, _, _, rfl, rfl, .inl ⟨by omega, by omega⟩, _, rfl, _, _, rfl, rfl, (by show (0 : Int) < _; decide), _, _, rfl, rfl, (by show 2 ≤ sizeLine; decide), fun q5 hq5 => ?_⟩
        have s16 := Same.new (o := .lst [.int (turn % base1), .int (turn * (base1 / 9973) + turn % 7)]) hq5
        have cF16 := s16 _ _ cF15
        have cB16 := s16 _ _ cB15
        have kk16 := kk15.trans s16.but
        have hD16 := hD15.same s16
        have cq5 : upd H15 q5 (.lst [.int (turn % base1), .int (turn * (base1 / 9973) + turn % 7)]) q5 = some (.lst ([turn % base1, turn * (base1 / 9973) + turn % 7].map V.int)) := upd_same
        dsimp only
        generalize upd H15 q5 (.lst [.int (turn % base1), .int (turn * (base1 / 9973) + turn % 7)]) = H16 at s16 cF16 cB16 kk16 hD16 cq5 ⊢
        refine ⟨_, rfl, _, _, rfl, rfl, .inr ⟨_, rfl, ?_⟩⟩
        have m3 := b2i_bd (decide (1000 < base1))
        generalize (if decide (1000 < base1) = true then (1 : Int) else 0) = mj at m3 ⊢
        obtain ⟨number, hnm, enm⟩ := at_pick (ns := [turn % base1, turn * (base1 / 9973) + turn % 7]) m3.1 m3.2
        have hnb : 0 ≤ number ∧ number ≤ 3000000000000 := by
          have : number = turn % base1 ∨ number = turn * (base1 / 9973) + turn % 7 := by simpa using hnm
          rcases this with e | e
          · omega
          · rw [e]; omega
        refine ⟨_, _, _, _, rfl, rfl, SqL.of cq5, enm, ?_⟩
        dsimp only [gName]
        -- found.append
        refine ⟨_, rfl, .inl ⟨rfl, _, SqL.of cF16⟩, _, rfl, _, rfl, _, rfl, _, _, rfl, rfl, (by show 2 ≤ sizeLine; decide), fun q6 hq6 => ?_⟩
        have s17 := Same.new (o := .lst [.int number, .int (base1 - 1)]) hq6
        have cq6 : upd H16 q6 (.lst [.int number, .int (base1 - 1)]) q6 = some (.lst ([number, base1 - 1].map V.int)) := upd_same
        dsimp only
        generalize upd H16 q6 (.lst [.int number, .int (base1 - 1)]) = H17 at s17 cq6 ⊢
        refine ⟨_, rfl, _, _, rfl, rfl, (by show (0 : Int) < _; decide), rfl, .inr ⟨_, rfl, ?_⟩⟩
        have m4 := b2i_bd (decide (V.int (turn % 11) = V.int 5))
        generalize (if decide (V.int (turn % 11) = V.int 5) = true then (1 : Int) else 0) = ml at m4 ⊢
        obtain ⟨last, hls, els⟩ := at_pick (ns := [number, base1 - 1]) m4.1 m4.2
        have hlsb : 0 ≤ last ∧ last ≤ 3000000000000 := by
          have : last = number ∨ last = base1 - 1 := by simpa using hls
          omega
        refine ⟨_, _, _, _, rfl, rfl, SqL.of cq6, els, _, _, rfl, rfl, F, _, _, rfl, rfl, s17 _ _ cF16, by rw [List.length_map]; exact small1000 (by omega), ?_⟩
        refine ⟨fs ++ [low + last], base1, _, _, _, _, rfl, bs0, bs1, ?_, by rw [List.length_append, fl]; rfl, fun n hn => ?_, (kk16.trans s17.but).at fF, (hD16.same s17).at nF, ?_⟩
        · rw [upd_same, List.map_append]; rfl
        · rcases List.mem_append.mp hn with z | z
          · exact hf n z
          · rw [List.mem_singleton.mp z]; exact ⟨by omega, by omega⟩
        · rw [upd_ne nBF]; exact s17 _ _ cB16
      · rintro σ' H14 ⟨fs, base1, v15, v16, v17, v18, rfl, bs0, bs1, cF, fl, hf, k14, hD14, cB14⟩
        exact fin _ _ ⟨fs, base1, _, _, _, _, rfl, cF, fl, hf, k14, hD14⟩
    clear kk13 cB13 hD13 cF13
    rintro _ H14 ⟨fs, base1, v15, v16, v17, v18, rfl, cF, fl, hf, k14, hD14⟩
    -- shape
    refine ⟨_, rfl, p, _, rfl, hD14, by decide, fun shape H15 a15 b15 _ hD15 k15 => ?_⟩
    have cF15 := k15 _ _ nF cF
    have kk15 := k14.trans k15
    dsimp only [gName]
    have done : ∀ (r : Addr) (H' : Hp) (ms : List Int), Same H15 H' → H15 r = none → H' r = some (.lst (ms.map V.int)) → ms.length ≤ many.toNat → (∀ n ∈ ms, n ∈ fs) → Q (.ref r) H' := fun r H' ms s' fr cr ml hm =>
      q r H' ms (free_of_but kk15 hD15.some fr) (hD15.ne fr) (kk15.trans s'.but) (hD15.same s') cr (by omega) fun n hn => hf n (hm n hn)
    refine seqJ (fun σ' H' => σ' = [some (.ref p), some (.int most), some (.int many), some (.ref Bs), some (.int base1), some (.bl mixed), some (.int wide), some (.int (1000000000000 - wide + 1)), some (.int low), some (.int one), some (.int (1 + other)), some (.int third), some (.bl free), some (.int likes), some (.ref F), v15, v16, v17, v18, some (.int shape)] ∧ H' = H15) (fun fin => ?_) ?_
    · refine ⟨_, rfl, rfl, _, rfl, ?_⟩
      refine ite2 (fun _ => ?_) (fun _ => fin _ _ ⟨rfl, rfl⟩)
      exact ⟨_, rfl, F, fs, rfl, SqL.of cF15, fun ms r pm _ hr' => done r _ ms (Same.new hr') hr' upd_same (by rw [pm.length_eq, fl]; exact Nat.le_refl _) fun n hn => pm.mem_iff.mp hn⟩
    rintro _ H15 ⟨rfl, rfl⟩
    refine seqJ (fun σ' H' => σ' = [some (.ref p), some (.int most), some (.int many), some (.ref Bs), some (.int base1), some (.bl mixed), some (.int wide), some (.int (1000000000000 - wide + 1)), some (.int low), some (.int one), some (.int (1 + other)), some (.int third), some (.bl free), some (.int likes), some (.ref F), v15, v16, v17, v18, some (.int shape)] ∧ H' = H15) (fun fin => ?_) ?_
    · refine ⟨_, rfl, rfl, _, rfl, ?_⟩
      refine ite2 (fun _ => ?_) (fun _ => fin _ _ ⟨rfl, rfl⟩)
      refine ⟨_, rfl, F, fs, rfl, SqL.of cF15, fun ms r pm _ hr' => ⟨r, _, rfl, SqL.of upd_same, fun r2 hr2 => ?_⟩⟩
      rw [← List.map_reverse]
      exact done r2 _ ms.reverse ((Same.new hr').trans (Same.new hr2)) ((Same.new hr').free hr2) upd_same (by rw [List.length_reverse, pm.length_eq, fl]; exact Nat.le_refl _) fun n hn => pm.mem_iff.mp (List.mem_reverse.mp hn)
    rintro _ H15 ⟨rfl, rfl⟩
    refine seqJ (fun σ' H' => σ' = [some (.ref p), some (.int most), some (.int many), some (.ref Bs), some (.int base1), some (.bl mixed), some (.int wide), some (.int (1000000000000 - wide + 1)), some (.int low), some (.int one), some (.int (1 + other)), some (.int third), some (.bl free), some (.int likes), some (.ref F), v15, v16, v17, v18, some (.int shape)] ∧ H' = H15) (fun fin => ?_) ?_
    · refine ⟨_, rfl, rfl, _, rfl, ?_⟩
      refine ite2 (fun _ => ?_) (fun _ => fin _ _ ⟨rfl, rfl⟩)
      have h2 := pick_two fs
      refine ⟨_, rfl, F, fs, rfl, SqL.of cF15, fun r1 hr1 => ?_⟩
      have e1 := Same.new (o := .lst ((PyProof.Rows.pickNums fs none none (some 2)).map V.int)) hr1
      refine ⟨r1, _, rfl, SqL.of upd_same, fun ms1 r2 pm1 _ hr2 => ?_⟩
      have e2 := Same.new (o := .lst (ms1.map V.int)) hr2
      have e12' := e1.trans e2
      refine ⟨_, rfl, _, rfl, F, fs, rfl, SqL.of (e12' _ _ cF15), fun r3 hr3 => ?_⟩
      have e3 := Same.new (o := .lst ((PyProof.Rows.pickNums fs (some 1) none (some 2)).map V.int)) hr3
      refine ⟨r3, _, rfl, SqL.of upd_same, fun ms2 r4 pm2 _ hr4 => ?_⟩
      have e4 := Same.new (o := .lst (ms2.map V.int)) hr4
      refine ⟨r4, _, rfl, SqL.of upd_same, fun r5 hr5 => ?_⟩
      have e5 := Same.new (o := .lst (ms2.map V.int).reverse) hr5
      have e35 := e3.trans (e4.trans e5)
      rw [← List.map_reverse] at e5 e35 ⊢
      have c2 := e35 _ _ (show upd (upd H15 r1 (.lst ((PyProof.Rows.pickNums fs none none (some 2)).map V.int))) r2 (.lst (ms1.map V.int)) r2 = _ from upd_same)
      refine ⟨r2, r5, _, _, rfl, rfl, c2, upd_same, ?_, fun r6 hr6 => ?_⟩
      · rw [List.length_map, List.length_map, List.length_reverse, pm1.length_eq, pm2.length_eq]; exact line1000 (by omega)
      have e6 := Same.new (o := .lst (ms1.map V.int ++ ms2.reverse.map V.int)) hr6
      refine done r6 _ (ms1 ++ ms2.reverse) (e12'.trans (e35.trans e6)) ((e12'.trans e35).free hr6) (by rw [upd_same, List.map_append]) ?_ fun n hn => ?_
      · rw [List.length_append, List.length_reverse, pm1.length_eq, pm2.length_eq]; omega
      · rcases List.mem_append.mp hn with z | z
        · exact pick_mem (pm1.mem_iff.mp z)
        · exact pick_mem (pm2.mem_iff.mp (List.mem_reverse.mp z))
    rintro _ H15 ⟨rfl, rfl⟩
    exact ⟨_, rfl, q F H15 fs fF nF kk15 hD15 cF15 (by omega) hf⟩
end

end Law

set_option Elab.async false
set_option linter.all false
set_option maxRecDepth 100000
set_option maxHeartbeats 4000000
namespace Law
open PySem L2

def spRG (K : PySem.W.Frag) (g : Int → Int) : Sp := fun vs H Q _ => ∃ (a : Addr) (ns : List Int), vs = [.ref a] ∧ SqL K H a (ns.map V.int) ∧ ns.length ≤ 300 ∧ ∀ (l : Addr) (H' : Hp) (ts : List Addr) (ps : List (Int × Int)), Same H H' → H l = none → H' l = some (.lst (ts.map V.ref)) → PrAt H' ts ps → AreReaches (ns.map g) ps → Q (.ref l) H'
abbrev spReaches (K : PySem.W.Frag) : Sp := spRG K (fun n => n)
section
variable {P : Program} {w : World} {K : PySem.W.Frag} {mg : Str → Option Value} {base : Heap}
def xreaches : { t : Stmt // top 5 = t } := ⟨_, by conv => { lhs; whnf }⟩
abbrev sreaches : Stmt := xreaches.1
theorem screaches : FnScope ["row", "begins", "ends", "waiting", "place", "number"] ["row"] (defScope sreaches) := ⟨rfl, rfl, rfl, by decide +kernel, rfl, by decide +kernel, by decide +kernel⟩
theorem fn_reaches (B : Bl mg bls) (D : DefAt K mg "reaches" sreaches ["row"]) : Fn P w K mg base 1 "reaches" ["row"] (spReaches K) := by
  refine D.fn screaches (fun vs H Q E h => ?_) (fun f cdv A outer s H vs Q E hr h => ?_)
  · obtain ⟨a, ns, rfl, _⟩ := h; rfl
  · obtain ⟨a, ns, rfl, hs, hl, q⟩ := h
    refine' ⟨_, ?tm, ?rd⟩
    (case tm =>
      (conv => { arg 2; whnf })
      refine' pss_cons ?s0 ?r0
      (case s0 =>
        exact (ps_set (i := 1) screaches.nd (by rfl) (by first | exact Or.inl rfl | exact Or.inr rfl) (pe_lst pa_nil)))
      (case r0 =>
        refine' pss_cons ?s0x ?r0x
        (case s0x =>
          exact (ps_set (i := 2) screaches.nd (by rfl) (by first | exact Or.inl rfl | exact Or.inr rfl) (pe_op op_rep (pe_lst (pa_cons (pe_callB call_len_seq (by rfl) (B "len" (by decide +kernel)) (by decide +kernel) (pa_cons (pv 0) pa_nil)) pa_nil)) (pe_callB call_len_seq (by rfl) (B "len" (by decide +kernel)) (by decide +kernel) (pa_cons (pv 0) pa_nil)))))
        (case r0x =>
          refine' pss_cons ?s0xx ?r0xx
          (case s0xx =>
            exact (ps_set (i := 3) screaches.nd (by rfl) (by first | exact Or.inl rfl | exact Or.inr rfl) (pe_lst pa_nil)))
          (case r0xx =>
            refine' pss_cons ?s0xxx ?r0xxx
            (case s0xxx =>
              refine' ps_for PassesOwn.never (by rfl) ?i0xxx ?g0xxx ?d0xxx
              (case i0xxx => exact (pi_enum (by rfl) (B "enumerate" (by decide +kernel)) (pa_cons (pv 0) pa_nil)))
              (case g0xxx => exact (pg_tup (by rfl) (pgs_cons (pg_name (i := 4) screaches.nd (by rfl) (by first | exact Or.inl rfl | exact Or.inr rfl)) (pgs_cons (pg_name (i := 5) screaches.nd (by rfl) (by first | exact Or.inl rfl | exact Or.inr rfl)) pgs_nil))))
              (case d0xxx =>
                refine' pss_cons ?s0xxxf ?r0xxxf
                (case s0xxxf =>
                  refine' ps_while PassesOwn.never ?c0xxxf ?d0xxxf
                  (case c0xxxf => exact (PW.pt (pw_and (pt_truth (pv 3) (by intro _; rfl)) (pw_and1 (pt_cmpR op_gt (pe_ix ix_list (pv 0) (pe_ix ix_list (pv 3) (pe_un un_neg pe_int) (fun _ _ => rfl)) (fun _ _ => rfl)) (pv 5) (nomark _))))))
                  (case d0xxxf =>
                    refine' pss_one ?s0xxxfw
                    (case s0xxxfw =>
                      exact (ps_asg (pv 4) (pg_sub (pv 2) (pe_bm0 PySem.F.plainAttrs_list PySem.F.slot_list_pop PySem.F.type_list_pop mt_pop (pv 3)) set_list)))))
                (case r0xxxf =>
                  refine' pss_cons ?s0xxxfx ?r0xxxfx
                  (case s0xxxfx =>
                    exact (ps_expr (pe_bm PySem.F.plainAttrs_list PySem.F.slot_list_append PySem.F.type_list_append mt_append (pv 1) (pa_cons (pe_ifExp (pt_truth (pv 3) (by intro _; rfl)) (pe_op op_add (pe_ix ix_list (pv 3) (pe_un un_neg pe_int) (fun _ _ => rfl)) pe_int) pe_int) pa_nil))))
                  (case r0xxxfx =>
                    refine' pss_one ?s0xxxfxx
                    (case s0xxxfxx =>
                      exact (ps_expr (pe_bm PySem.F.plainAttrs_list PySem.F.slot_list_append PySem.F.type_list_append mt_append (pv 3) (pa_cons (pv 4) pa_nil))))))))
            (case r0xxx =>
              refine' pss_one ?s0xxxx
              (case s0xxxx =>
                exact (ps_ret (pe_list_zip (by rfl) (by rfl) (B "list" (by decide +kernel)) (by rfl) (B "zip" (by decide +kernel)) (pa_cons (pv 1) (pa_cons (pv 2) pa_nil))))))))))
    refine ⟨(by show 0 ≤ sizeLine; decide), fun pb hpb => ?_⟩
    have s1 := Same.new (o := .lst []) hpb
    have cb1 : upd H pb (.lst []) pb = some (.lst (([] : List Nat).map nV)) := upd_same
    generalize upd H pb (.lst []) = H1 at s1 cb1 ⊢
    refine ⟨_, rfl, a, _, rfl, .inl (s1.seq hs), (by show 1 ≤ sizeLine; decide), fun q1 hq1 => ?_⟩
    have s2 := Same.new (o := .lst [.int ((ns.map V.int).length : Nat)]) hq1
    refine ⟨_, rfl, a, _, rfl, .inl ((s1.trans s2).seq hs), q1, _, _, rfl, rfl, upd_same, by rw [List.length_map]; omega, by rw [List.length_map]; omega, ?_, fun pe hpe => ?_⟩
    · refine line1000 ?_
      show 1 * _ ≤ 1000
      rw [List.length_map]; omega
    have eE : (List.replicate ((((ns.map V.int).length : Nat) : Int)).toNat [V.int ((ns.map V.int).length : Nat)]).flatten = (List.replicate ns.length ns.length).map nV := by
      rw [flat_one, List.map_replicate, List.length_map, Int.toNat_natCast]
    rw [eE]
    have s3 := Same.new (o := .lst ((List.replicate ns.length ns.length).map nV)) hpe
    have ce3 : upd (upd H1 q1 (.lst [.int ((ns.map V.int).length : Nat)])) pe (.lst ((List.replicate ns.length ns.length).map nV)) pe = some (.lst ((List.replicate ns.length ns.length).map nV)) := upd_same
    have s23 := s2.trans s3
    generalize upd (upd H1 q1 (.lst [.int ((ns.map V.int).length : Nat)])) pe (.lst ((List.replicate ns.length ns.length).map nV)) = H3 at s23 ce3 ⊢
    have fpe : H pe = none := (s1.trans s2).free hpe
    have nbe : pb ≠ pe := ne_of_none (s2 _ _ cb1) hpe
    refine ⟨(by show 0 ≤ sizeLine; decide), fun pw hpw => ?_⟩
    have s4 := Same.new (o := .lst []) hpw
    have fpw : H pw = none := (s1.trans s23).free hpw
    have nbw : pb ≠ pw := ne_of_none (s23 _ _ cb1) hpw
    have new : pe ≠ pw := ne_of_none ce3 hpw
    have cw4 : upd H3 pw (.lst []) pw = some (.lst (([] : List Nat).map nV)) := upd_same
    generalize upd H3 pw (.lst []) = H4 at s4 cw4 ⊢
    have k4 := s1.trans (s23.trans s4)
    refine ⟨_, rfl, a, _, rfl, k4.seq hs, for_enum (K := K) (a := a) (xs := ns.map V.int) (fun m σ H' => ∃ (bs ws es : List Nat) (v4 v5 : Option V), σ = [some (.ref a), some (.ref pb), some (.ref pe), some (.ref pw), v4, v5] ∧ H' pb = some (.lst (bs.map nV)) ∧ H' pe = some (.lst (es.map nV)) ∧ H' pw = some (.lst (ws.map nV)) ∧ bs.length = m ∧ ws.length ≤ m ∧ Begs ns bs ∧ Stk ns m m ws es ∧ Same H H')
      ⟨[], [], List.replicate ns.length ns.length, none, none, rfl, (s23.trans s4) _ _ cb1, s4 _ _ ce3, cw4, rfl, Nat.le_refl _, (fun i b hb => by simp at hb), Stk.start ns, k4⟩ (fun m σ H' _ ⟨_, _, _, _, _, _, _, _, _, _, _, _, _, k⟩ => k.seq hs) ?_ ?_⟩
    · rintro m x σ H5 T hx ⟨bs, ws, es, v4, v5, rfl, cb, ce, cw, bl, wl, hB, hS, k5⟩ hT
      obtain ⟨n, hn, rfl⟩ := get_ints hx
      have hm : m < ns.length := (List.getElem?_eq_some_iff.mp hn).1
      have en := get_vl hn
      subst en
      have sT := Same.new (o := .tup [.int (m : Nat), .int (vl ns m)]) hT
      refine ⟨T, _, rfl, SqT.of upd_same, rfl, _, _, rfl, _, _, rfl, rfl, ?_⟩
      generalize upd H5 T (.tup [.int (m : Nat), .int (vl ns m)]) = H6 at sT ⊢
      have k6 := k5.trans sT
      have cb6 := sT _ _ cb
      dsimp only [gName]
      refine seqJ (fun σ' H' => ∃ ws es : List Nat, σ' = [some (.ref a), some (.ref pb), some (.ref pe), some (.ref pw), some (.int (m : Nat)), some (.int (vl ns m))] ∧ H' pb = some (.lst (bs.map nV)) ∧ H' pe = some (.lst (es.map nV)) ∧ H' pw = some (.lst (ws.map nV)) ∧ ws.length ≤ m ∧ Stk ns m (m + 1) ws es ∧ Same H H' ∧ ∀ w, ws.getLast? = some w → vl ns w ≤ vl ns m) (fun fin => ?_) ?_
      · refine ⟨fun mm σ' H' => ∃ ws es : List Nat, mm = ws.length ∧ σ' = [some (.ref a), some (.ref pb), some (.ref pe), some (.ref pw), some (.int (m : Nat)), some (.int (vl ns m))] ∧ H' pb = some (.lst (bs.map nV)) ∧ H' pe = some (.lst (es.map nV)) ∧ H' pw = some (.lst (ws.map nV)) ∧ ws.length ≤ m ∧ Stk ns m (m + 1) ws es ∧ Same H H',
          ⟨_, ws, es, rfl, rfl, cb6, sT _ _ ce, sT _ _ cw, wl, hS.mono (Nat.le_succ _), k6⟩, ?_⟩
        rintro mm σ' H7 ⟨ws, es, rfl, rfl, cb7, ce7, cw7, wl7, hS7, k7⟩
        refine ⟨_, rfl, _, .inl ⟨_, SqL.of cw7, rfl⟩, ?_⟩
        rcases List.eq_nil_or_concat ws with rfl | ⟨us, wt, rfl⟩
        · exact fin _ _ ⟨[], es, rfl, cb7, ce7, cw7, wl7, hS7, k7, (fun w hw => by simp at hw)⟩
        · rw [List.concat_eq_append] at *
          have hwm := hS7.lt wt (by simp)
          have eW : (us ++ [wt]).map nV = us.map nV ++ [nV wt] := by rw [List.map_append]; rfl
          have eI : ((us ++ [wt]).map nV).isEmpty = false := by rw [eW]; simp
          rw [eI]
          refine ⟨_, rfl, _, rfl, _, rfl, pw, _, _, nV wt, rfl, rfl, SqL.of cw7, by rw [eW]; exact atI_last _ _, a, _, _, _, rfl, rfl, k7.seq hs, at_vl (i := wt) (by omega), _, rfl, _, _, rfl, rfl, _, rfl, ?_⟩
          refine ite2 (fun z => ?_) (fun z => ?_)
          · have z' : vl ns m < vl ns wt := of_decide_eq_true z
            refine ⟨_, fun σ' H' (z : ∃ ws es : List Nat, us.length = ws.length ∧ σ' = [some (.ref a), some (.ref pb), some (.ref pe), some (.ref pw), some (.int (m : Nat)), some (.int (vl ns m))] ∧ H' pb = some (.lst (bs.map nV)) ∧ H' pe = some (.lst (es.map nV)) ∧ H' pw = some (.lst (ws.map nV)) ∧ ws.length ≤ m ∧ Stk ns m (m + 1) ws es ∧ Same H H') => ⟨us.length, by simp, z⟩, ?_⟩
            refine ⟨_, rfl, _, rfl, _, rfl, .inl ⟨rfl, _, SqL.of cw7⟩, pw, _, nV wt, rfl, rfl, cw7, ?_, pe, es.map nV, _, wt, rfl, rfl, ?_, ?_, ?_⟩
            · rw [eW]; simp
            · rw [upd_ne new]; exact ce7
            · rw [List.length_map, hS7.lenE]
              exact ix_nat (i := (wt : Int)) (by omega) (by omega) |>.trans (by simp)
            · refine ⟨us, es.set wt m, rfl, rfl, ?_, ?_, ?_, ?_, hS7.pop hm z', ?_⟩
              · rw [upd_ne nbe, upd_ne nbw]; exact cb7
              · rw [upd_same, List.map_set]
              · rw [upd_ne new.symm, upd_same, eW, List.dropLast_concat]
              · rw [List.length_append] at wl7; simp at wl7; omega
              · exact (k7.at fpw).at fpe
          · have z' : ¬ vl ns m < vl ns wt := fun q1 => z (decide_eq_true q1)
            exact fin _ _ ⟨us ++ [wt], es, rfl, cb7, ce7, cw7, wl7, hS7, k7, (fun w hw => by
              have : wt = w := by simpa using hw
              rw [← this]; omega)⟩
      · rintro σ' H7 ⟨ws, es, rfl, cb7, ce7, cw7, wl7, hS7, k7, hv⟩
        have hbg := hS7.beg hm hv
        have fin : ∀ H8 : Hp, H8 = upd H7 pb (.lst (bs.map nV ++ [nV (bgn ws)])) → tDrop (tBM K "list" rAppend (tVar 3) (tCons (tVar 4) tNil)) { nx := fun σ' H' => ∃ (bs ws es : List Nat) (v4 v5 : Option V), σ' = [some (.ref a), some (.ref pb), some (.ref pe), some (.ref pw), v4, v5] ∧ H' pb = some (.lst (bs.map nV)) ∧ H' pe = some (.lst (es.map nV)) ∧ H' pw = some (.lst (ws.map nV)) ∧ bs.length = m + 1 ∧ ws.length ≤ m + 1 ∧ Begs ns bs ∧ Stk ns (m + 1) (m + 1) ws es ∧ Same H H', rt := Q }
            [some (.ref a), some (.ref pb), some (.ref pe), some (.ref pw), some (.int (m : Nat)), some (.int (vl ns m))] H8 := by
          rintro H8 rfl
          have cw8 : upd H7 pb (.lst (bs.map nV ++ [nV (bgn ws)])) pw = some (.lst (ws.map nV)) := by rw [upd_ne nbw.symm]; exact cw7
          refine ⟨_, rfl, .inl ⟨rfl, _, SqL.of cw8⟩, _, rfl, pw, _, _, rfl, rfl, cw8, ?_, ?_⟩
          · rw [List.length_map]; exact small1000 (by omega)
          · refine ⟨bs ++ [bgn ws], ws ++ [m], es, _, _, rfl, ?_, ?_, ?_, by rw [List.length_append, bl]; rfl, by rw [List.length_append]; show ws.length + 1 ≤ m + 1; omega, ?_, hS7.push hm hv, ?_⟩
            · rw [upd_ne nbw, upd_same, List.map_append]; rfl
            · rw [upd_ne new, upd_ne nbe.symm]; exact ce7
            · rw [upd_same, List.map_append]; rfl
            · exact hB.snoc (by rw [bl]; exact hbg)
            · have fpb : H pb = none := hpb
              exact (k7.at fpb).at fpw
        refine ⟨_, rfl, .inl ⟨rfl, _, SqL.of cb7⟩, _, rfl, _, .inl ⟨_, SqL.of cw7, rfl⟩, ?_⟩
        have hbl : (bs.map nV).length < sizeLine := by rw [List.length_map]; exact small1000 (by omega)
        rcases List.eq_nil_or_concat ws with rfl | ⟨us, wt, rfl⟩
        · exact ⟨pb, _, _, rfl, rfl, cb7, hbl, fin _ rfl⟩
        · rw [List.concat_eq_append] at *
          have eW : (us ++ [wt]).map nV = us.map nV ++ [nV wt] := by rw [List.map_append]; rfl
          have eI : ((us ++ [wt]).map nV).isEmpty = false := by rw [eW]; simp
          rw [eI]
          refine ⟨_, rfl, _, rfl, pw, _, _, nV wt, rfl, rfl, SqL.of cw7, by rw [eW]; exact atI_last _ _, _, _, rfl, rfl, pb, _, _, rfl, rfl, cb7, hbl, ?_⟩
          have eb : bgn (us ++ [wt]) = wt + 1 := by unfold bgn; simp
          refine fin _ ?_
          rw [eb]
          rfl
    · rintro σ H5 ⟨bs, ws, es, v4, v5, rfl, cb, ce, cw, bl, wl, hB, hS, k5⟩
      rw [List.length_map] at bl hS
      refine ⟨_, rfl, _, rfl, pb, pe, _, _, rfl, SqL.of cb, SqL.of ce, by rw [List.length_map, List.length_map, bl, hS.lenE], fun H' l ts sm nl cl tl tt => ?_⟩
      refine q l H' ts (List.zipWith (fun (b e : Nat) => ((b : Int), (e : Int))) bs es) (k5.trans sm) (k5.free nl) cl ⟨?_, fun j t p h1 h2 => ?_⟩ (by rw [show (ns.map fun n => n) = ns from by simp]; exact reaches_done hB bl hS)
      · rw [tl, List.length_map, List.length_zipWith, bl, hS.lenE]; simp
      · rw [tt j t h1]
        rw [List.getElem?_zipWith] at h2
        cases e1 : bs[j]? with
        | none => rw [e1] at h2; simp at h2
        | some b =>
          cases e2 : es[j]? with
          | none => rw [e1, e2] at h2; simp at h2
          | some e =>
            rw [e1, e2] at h2
            have hp : ((b : Int), (e : Int)) = p := by simpa using h2
            subst hp
            simp [List.getD_eq_getElem?_getD, List.getElem?_map, e1, e2]
end

def hd1 (ps : List (Int × Int)) (i : Nat) : Int := ((i : Int) - (ps.getD i (0, 0)).1 + 1) * ((ps.getD i (0, 0)).2 - i)
def heldL (ps : List (Int × Int)) : List Int := (List.range ps.length).map (hd1 ps)
theorem heldL_at {ps : List (Int × Int)} {i : Nat} (h : i < ps.length) : (heldL ps).getD i 0 = hd1 ps i := by
  unfold heldL
  rw [List.getD_eq_getElem?_getD, List.getElem?_map, List.getElem?_range h]
  rfl
theorem heldL_len (ps : List (Int × Int)) : (heldL ps).length = ps.length := by unfold heldL; rw [List.length_map, List.length_range]
theorem pr_atH {ns : List Int} {ps : List (Int × Int)} (h : AreReaches ns ps) {i : Nat} (hi : i < ns.length) : ps[i]? = some (ps.getD i (0, 0)) ∧ ∃ b e : Nat, ps.getD i (0, 0) = ((b : Int), (e : Int)) ∧ IsReach ns i b e := by
  have hil : i < ps.length := by rw [h.1]; exact hi
  have e : ps[i]? = some (ps.getD i (0, 0)) := by rw [List.getD_eq_getElem?_getD, List.getElem?_eq_getElem hil]; rfl
  exact ⟨e, h.2 i _ e⟩
theorem hd1_bd {ns : List Int} {ps : List (Int × Int)} (h : AreReaches ns ps) {i : Nat} (hi : i < ns.length) (hl : ns.length ≤ 300) : 0 ≤ hd1 ps i ∧ hd1 ps i ≤ 90000 := by
  obtain ⟨_, b, e, ep, hre⟩ := pr_atH h hi
  have h1 := hre.bi; have h2 := hre.ie; have h3 := hre.en
  unfold hd1
  rw [ep]
  show 0 ≤ ((i : Int) - (b : Int) + 1) * ((e : Int) - i) ∧ ((i : Int) - (b : Int) + 1) * ((e : Int) - i) ≤ 90000
  have a1 : (0 : Int) ≤ (i : Int) - b + 1 := by omega
  have a2 : (0 : Int) ≤ (e : Int) - i := by omega
  refine ⟨Int.mul_nonneg a1 a2, ?_⟩
  have := Int.mul_le_mul (show (i : Int) - b + 1 ≤ 300 by omega) (show (e : Int) - i ≤ 300 by omega) a2 (by decide)
  omega
def spHeld (K : PySem.W.Frag) : Sp := fun vs H Q _ => ∃ (a : Addr) (ns : List Int), vs = [.ref a] ∧ SqL K H a (ns.map V.int) ∧ ns.length ≤ 300 ∧ ∀ (l : Addr) (H' : Hp) (ps : List (Int × Int)), Same H H' → H l = none → H' l = some (.lst ((heldL ps).map V.int)) → AreReaches ns ps → Q (.ref l) H'
def spHeldW (K : PySem.W.Frag) : Sp := fun vs H Q _ => ∃ (l : Addr) (ts : List Addr) (ps : List (Int × Int)), vs = [.ref l] ∧ H l = some (.lst (ts.map V.ref)) ∧ PrAt H ts ps ∧ ps.length ≤ 300 ∧ (∀ p ∈ ps, -1000 ≤ p.1 ∧ p.1 ≤ 1000) ∧ ∀ (D : Addr) (H' : Hp), Same H H' → H D = none → H' D = some (.lst ((heldL ps).map V.int)) → Q (.ref D) H'
theorem reach_bd {ns : List Int} {ps : List (Int × Int)} (h : AreReaches ns ps) (hl : ns.length ≤ 300) : ps.length ≤ 300 ∧ ∀ p ∈ ps, -1000 ≤ p.1 ∧ p.1 ≤ 1000 := by
  refine ⟨by rw [h.1]; exact hl, fun p hp => ?_⟩
  obtain ⟨i, hi, e⟩ := List.mem_iff_getElem.mp hp
  obtain ⟨b, e', ep, hre⟩ := h.2 i p (by rw [List.getElem?_eq_getElem hi, e])
  have h1 := hre.bi; have h2 := hre.ie; have h3 := hre.en
  rw [ep]
  show -1000 ≤ (b : Int) ∧ (b : Int) ≤ 1000
  omega
section
variable {P : Program} {w : World} {K : PySem.W.Frag} {mg : Str → Option Value} {base : Heap}
def xheld_within : { t : Stmt // top 6 = t } := ⟨_, by conv => { lhs; whnf }⟩
abbrev sheld_within : Stmt := xheld_within.1
theorem scheld_within : FnScope ["spans", "place", "begin", "end"] ["spans"] (defScope sheld_within) := ⟨rfl, rfl, rfl, by decide +kernel, rfl, by decide +kernel, by decide +kernel⟩
theorem fn_held_within (B : Bl mg bls) (D : DefAt K mg "held_within" sheld_within ["spans"]) : Fn P w K mg base 1 "held_within" ["spans"] (spHeldW K) := by
  refine D.fn scheld_within (fun vs H Q E h => ?_) (fun f cdv A outer s H vs Q E hr h => ?_)
  · obtain ⟨a, ns, ps, rfl, _⟩ := h; rfl
  · obtain ⟨l, ts, ps, rfl, cl, hP, hl, hb, q⟩ := h
    have htl : ts.length = ps.length := hP.1
    refine' ⟨_, ?tm, ?rd⟩
    (case tm =>
      (conv => { arg 2; whnf })
      refine' pss_one ?s0
      (case s0 =>
        exact (ps_ret (pe_lc (own := [("place", 1), ("begin", 2), ("end", 3)]) (g := (gTup K 2 (gCons (gName 1) (gCons (gTup K 2 (gCons (gName 2) (gCons (gName 3) gNil))) gNil)))) (by rfl) scheld_within.nd (pi_enum (by rfl) (B "enumerate" (by decide +kernel)) (pa_cons (pv 0) pa_nil)) (blkOk_by (own := [("place", 1), ("begin", 2), ("end", 3)]) (N := ["spans", "place", "begin", "end"]) (sc := defScope sheld_within) (by decide +kernel)) (fun _ _ _ _ _ => (pg_tup (by rfl) (pgs_cons (pg_name (i := 1) scheld_within.nd (by rfl) (by first | exact Or.inl rfl | exact Or.inr rfl)) (pgs_cons (pg_tup (by rfl) (pgs_cons (pg_name (i := 2) scheld_within.nd (by rfl) (by first | exact Or.inl rfl | exact Or.inr rfl)) (pgs_cons (pg_name (i := 3) scheld_within.nd (by rfl) (by first | exact Or.inl rfl | exact Or.inr rfl)) pgs_nil))) pgs_nil)))) (fun _ _ _ _ _ => pts_nil) (fun _ _ _ _ _ => (pe_op op_mul (pe_op op_add (pe_op op_sub (pv 1) (pv 2)) pe_int) (pe_op op_sub (pv 3) (pv 1))))))))
    refine ⟨_, rfl, l, _, rfl, SqL.of cl, fun D1 hD1 => lc_enum (K := K) (a := l) (xs := ts.map V.ref) (fun j H' => H' D1 = some (.lst (((List.range j).map (hd1 ps)).map V.int)) ∧ Same H H') ⟨upd_same, Same.new hD1⟩ (fun j H' _ ⟨_, z⟩ => SqL.of (z _ _ cl)) ?_ ?_⟩
    · rintro j x H2 T hx ⟨c1, s1⟩ hT
      obtain ⟨t, ht, rfl⟩ := get_refs hx
      have hjl : j < ps.length := by have := (List.getElem?_eq_some_iff.mp ht).1; omega
      have hp : ps[j]? = some (ps.getD j (0, 0)) := by rw [List.getD_eq_getElem?_getD, List.getElem?_eq_getElem hjl]; rfl
      have hbj := hb _ (List.mem_of_getElem? hp)
      have tt := hP.2 j t _ ht hp
      have s2 := Same.new (o := .tup [.int (j : Nat), .ref t]) hT
      have tt2 := s2 _ _ (s1 _ _ tt)
      have c2 := s2 _ _ c1
      refine ⟨T, _, rfl, SqT.of upd_same, rfl, _, _, rfl, _, _, rfl, ?_⟩
      generalize upd H2 T (.tup [.int (j : Nat), .ref t]) = H3 at s2 tt2 c2 ⊢
      refine ⟨t, _, rfl, SqT.of tt2, rfl, _, _, rfl, _, _, rfl, rfl, rfl, rfl, ?_⟩
      refine ⟨_, rfl, _, rfl, _, _, rfl, rfl, _, _, rfl, rfl, ?_⟩
      refine ⟨_, rfl, _, rfl, _, _, rfl, rfl, _, _, rfl, rfl, .inl ?_, ?_⟩
      · show -(2 ^ 64) < (j : Int) - (ps.getD j (0, 0)).1 + 1 ∧ (j : Int) - (ps.getD j (0, 0)).1 + 1 < 2 ^ 64
        omega
      · refine ⟨_, c2, ?_, ?_, ?_⟩
        · rw [List.length_map, List.length_map, List.length_range]; exact small1000 (by omega)
        · rw [List.range_succ, List.map_append, List.map_append]; exact upd_same
        · exact (s1.trans s2).at hD1
    · rintro H2 ⟨c1, s1⟩
      rw [List.length_map, htl] at c1
      exact q D1 H2 s1 hD1 c1
def xmany_held : { t : Stmt // top 7 = t } := ⟨_, by conv => { lhs; whnf }⟩
abbrev smany_held : Stmt := xmany_held.1
theorem scmany_held : FnScope ["row"] ["row"] (defScope smany_held) := ⟨rfl, rfl, rfl, by decide +kernel, rfl, by decide +kernel, by decide +kernel⟩
theorem fn_many_held (B : Bl mg bls) (D : DefAt K mg "many_held" smany_held ["row"]) (Freaches : Fn P w K mg base 1 "reaches" ["row"] (spReaches K)) (Fheld_within : Fn P w K mg base 1 "held_within" ["spans"] (spHeldW K)) : Fn P w K mg base 2 "many_held" ["row"] (spHeld K) := by
  refine D.fn scmany_held (fun vs H Q E h => ?_) (fun f cdv A outer s H vs Q E hr h => ?_)
  · obtain ⟨a, ns, rfl, _⟩ := h; rfl
  · obtain ⟨a, ns, rfl, hs, hl, q⟩ := h
    refine' ⟨_, ?tm, ?rd⟩
    (case tm =>
      (conv => { arg 2; whnf })
      refine' pss_one ?s0
      (case s0 =>
        exact (ps_ret (pe_fn Fheld_within hr (by rfl) (pa_cons (pe_fn Freaches hr (by rfl) (pa_cons (pv 0) pa_nil)) pa_nil)))))
    refine ⟨_, rfl, a, ns, rfl, hs, hl, fun l H1 ts ps sm1 fl cl hP ar => ?_⟩
    rw [show (ns.map fun n => n) = ns from List.map_id' ns] at ar
    have hbd := reach_bd ar hl
    exact ⟨l, ts, ps, rfl, cl, hP, hbd.1, hbd.2, fun D1 H2 s1 fD c1 => q D1 H2 ps (sm1.trans s1) (sm1.free fD) c1 ar⟩
end

def spSum (K : PySem.W.Frag) (g : List Int → Int) : Sp := fun vs H Q _ => ∃ (a : Addr) (ns : List Int), vs = [.ref a] ∧ SqL K H a (ns.map V.int) ∧ ns.length ≤ 300 ∧ ∀ H', Same H H' → Q (.int (sumSt ns g)) H'
theorem held_sum {ns : List Int} {ps : List (Int × Int)} (h : AreReaches ns ps) : ((ns.zip (heldL ps)).map fun p => p.1 * p.2).sum = sumSt ns minL := by
  rw [sumSt_least, sum_reaches h, ← range_zip_sum, heldL_len, h.1, Nat.min_self, sum_range']
  refine sumN_congr fun i hi => ?_
  rw [heldL_at (by rw [h.1]; exact hi)]
  rfl
theorem held_mul {ns : List Int} {ps : List (Int × Int)} (h : AreReaches ns ps) (hl : ns.length ≤ 300) : ∀ p ∈ ns.zip (heldL ps), CMul p.1 p.2 := fun p hp => by
  right
  have h2 := List.of_mem_zip hp
  unfold heldL at h2
  obtain ⟨i, hi, e⟩ := List.mem_map.mp h2.2
  have := hd1_bd h (i := i) (by rw [← h.1]; exact List.mem_range.mp hi) hl
  rw [← e]
  omega
section
variable {P : Program} {w : World} {K : PySem.W.Frag} {mg : Str → Option Value} {base : Heap}
def xsum_of_leasts : { t : Stmt // top 13 = t } := ⟨_, by conv => { lhs; whnf }⟩
abbrev ssum_of_leasts : Stmt := xsum_of_leasts.1
theorem scsum_of_leasts : FnScope ["row"] ["row"] (defScope ssum_of_leasts) := ⟨rfl, rfl, rfl, by decide +kernel, rfl, by decide +kernel, by decide +kernel⟩
theorem fn_sum_of_leasts (B : Bl mg bls) (D : DefG P K mg "sum_of_leasts" ssum_of_leasts ["row"]) (Fmany_held : Fn P w K mg base 2 "many_held" ["row"] (spHeld K)) : Fn P w K mg base 3 "sum_of_leasts" ["row"] (spSum K minL) := by
  refine D.fn scsum_of_leasts (fun vs H Q E h => ?_) (fun f cdv A outer s H vs Q E ck hr h => ?_)
  · obtain ⟨a, ns, rfl, _⟩ := h; rfl
  · obtain ⟨a, ns, rfl, hs, hl, q⟩ := h
    refine' ⟨_, ?tm, ?rd⟩
    (case tm =>
      (conv => { arg 2; whnf })
      refine' pss_one ?s0
      (case s0 =>
        exact (ps_ret (pe_sum_zip hr ck (by rfl) (by rfl) (B "sum" (by decide +kernel)) (by rfl) (B "zip" (by decide +kernel)) (pa_cons (pv 0) (pa_cons (pe_fn Fmany_held hr (by rfl) (pa_cons (pv 0) pa_nil)) pa_nil)) (el_mul rfl rfl rfl (by decide) (by decide)) rfl (by decide) (by decide) rfl rfl rfl (by decide) rfl))))
    refine ⟨_, rfl, _, rfl, a, ns, rfl, hs, hl, fun l H1 ps s1 fl cl ar => ?_⟩
    refine ⟨a, l, ns, heldL ps, rfl, s1.seq hs, SqL.of cl, held_mul ar hl, fun H2 s2 => ?_⟩
    rw [held_sum ar]
    exact q H2 (s1.trans s2)
end
theorem neg_least (ns : List Int) : -(sumSt (ns.map fun n => -n) minL) = sumSt ns maxL := by
  rw [sumSt_great, sumSt_least]
section
variable {P : Program} {w : World} {K : PySem.W.Frag} {mg : Str → Option Value} {base : Heap}
def xsum_of_greatests : { t : Stmt // top 14 = t } := ⟨_, by conv => { lhs; whnf }⟩
abbrev ssum_of_greatests : Stmt := xsum_of_greatests.1
theorem scsum_of_greatests : FnScope ["row", "number"] ["row"] (defScope ssum_of_greatests) := ⟨rfl, rfl, rfl, by decide +kernel, rfl, by decide +kernel, by decide +kernel⟩
theorem fn_sum_of_greatests (B : Bl mg bls) (D : DefAt K mg "sum_of_greatests" ssum_of_greatests ["row"]) (Fsum_of_leasts : Fn P w K mg base 3 "sum_of_leasts" ["row"] (spSum K minL)) : Fn P w K mg base 4 "sum_of_greatests" ["row"] (spSum K maxL) := by
  refine D.fn scsum_of_greatests (fun vs H Q E h => ?_) (fun f cdv A outer s H vs Q E hr h => ?_)
  · obtain ⟨a, ns, rfl, _⟩ := h; rfl
  · obtain ⟨a, ns, rfl, hs, hl, q⟩ := h
    refine' ⟨_, ?tm, ?rd⟩
    (case tm =>
      (conv => { arg 2; whnf })
      refine' pss_one ?s0
      (case s0 =>
        exact (ps_ret (pe_un un_neg (pe_fn Fsum_of_leasts hr (by rfl) (pa_cons (pe_lc (own := [("number", 1)]) (g := (gName 1)) (by rfl) scsum_of_greatests.nd (pi_list (pv 0)) (blkOk_by (own := [("number", 1)]) (N := ["row", "number"]) (sc := defScope ssum_of_greatests) (by decide +kernel)) (fun _ _ _ _ _ => (pg_name (i := 1) scsum_of_greatests.nd (by rfl) (by first | exact Or.inl rfl | exact Or.inr rfl))) (fun _ _ _ _ _ => pts_nil) (fun _ _ _ _ _ => (pe_un un_neg (pv 1)))) pa_nil))))))
    refine ⟨_, rfl, a, rfl, ⟨_, hs⟩, fun D1 hD1 => lc_mapI (f := fun n => -n) hs hD1 (by omega) (fun v => rfl) (fun n H' R r => ⟨_, rfl, _, rfl, r⟩) ?_⟩
    refine ⟨D1, ns.map (fun n => -n), rfl, SqL.of upd_same, by rw [List.length_map]; exact hl, fun H2 s2 => ?_⟩
    · refine ⟨_, rfl, ?_⟩
      show Q (.int (-(sumSt (ns.map fun n => -n) minL))) H2
      rw [neg_least]
      exact q H2 ((Same.new hD1).trans s2)
end
section
variable {P : Program} {w : World} {K : PySem.W.Frag} {mg : Str → Option Value} {base : Heap}
def xsum_of_spreads : { t : Stmt // top 15 = t } := ⟨_, by conv => { lhs; whnf }⟩
abbrev ssum_of_spreads : Stmt := xsum_of_spreads.1
theorem scsum_of_spreads : FnScope ["row"] ["row"] (defScope ssum_of_spreads) := ⟨rfl, rfl, rfl, by decide +kernel, rfl, by decide +kernel, by decide +kernel⟩
theorem fn_sum_of_spreads (B : Bl mg bls) (D : DefAt K mg "sum_of_spreads" ssum_of_spreads ["row"]) (Fsum_of_greatests : Fn P w K mg base 4 "sum_of_greatests" ["row"] (spSum K maxL)) (Fsum_of_leasts : Fn P w K mg base 3 "sum_of_leasts" ["row"] (spSum K minL)) :
    Fn P w K mg base 5 "sum_of_spreads" ["row"] (spSum K (fun l => maxL l - minL l)) := by
  refine D.fn scsum_of_spreads (fun vs H Q E h => ?_) (fun f cdv A outer s H vs Q E hr h => ?_)
  · obtain ⟨a, ns, rfl, _⟩ := h; rfl
  · obtain ⟨a, ns, rfl, hs, hl, q⟩ := h
    refine' ⟨_, ?tm, ?rd⟩
    (case tm =>
      (conv => { arg 2; whnf })
      refine' pss_one ?s0
      (case s0 =>
        exact (ps_ret (pe_op op_sub (pe_fn Fsum_of_greatests hr (by rfl) (pa_cons (pv 0) pa_nil)) (pe_fn Fsum_of_leasts hr (by rfl) (pa_cons (pv 0) pa_nil))))))
    refine ⟨_, rfl, a, ns, rfl, hs, hl, fun H1 s1 => ?_⟩
    refine ⟨_, rfl, a, ns, rfl, s1.seq hs, hl, fun H2 s2 => ⟨_, _, rfl, rfl, ?_⟩⟩
    show Q (.int (sumSt ns maxL - sumSt ns minL)) H2
    rw [← sumSt_spread]
    exact q H2 (s1.trans s2)
end

theorem get_refsP {ts : List Addr} {j : Nat} {x : V} (hx : (ts.map V.ref)[j]? = some x) : ∃ t, ts[j]? = some t ∧ x = V.ref t := by
  rw [List.getElem?_map] at hx
  cases e : ts[j]? with
  | none => rw [e] at hx; cases hx
  | some t => rw [e] at hx; exact ⟨t, rfl, (Option.some.inj hx).symm⟩
theorem pr_atP {ns : List Int} {ps : List (Int × Int)} (h : AreReaches ns ps) {i : Nat} (hi : i < ns.length) : ∃ b e : Nat, ps[i]? = some ((b : Int), (e : Int)) ∧ IsReach ns i b e := by
  have hil : i < ps.length := by rw [h.1]; exact hi
  obtain ⟨b, e, ep, r⟩ := h.2 i ps[i] (List.getElem?_eq_getElem hil)
  exact ⟨b, e, by rw [List.getElem?_eq_getElem hil, ep], r⟩
def spBy (K : PySem.W.Frag) (g : List Int → List Int) : Sp := fun vs H Q _ => ∃ (a l : Addr) (ns : List Int) (ts : List Addr) (ps : List (Int × Int)), vs = [.ref a, .ref l] ∧ SqL K H a (ns.map V.int) ∧ ns.length ≤ 300 ∧ H l = some (.lst (ts.map V.ref)) ∧ PrAt H ts ps ∧ AreReaches ns ps ∧
  ∀ (e : Addr) (H' : Hp), Same H H' → H e = none → H' e = some (.lst ((g ns).map V.int)) → Q (.ref e) H'
section
variable {P : Program} {w : World} {K : PySem.W.Frag} {mg : Str → Option Value} {base : Heap}
def xsums_by_end : { t : Stmt // top 11 = t } := ⟨_, by conv => { lhs; whnf }⟩
abbrev ssums_by_end : Stmt := xsums_by_end.1
theorem scsums_by_end : FnScope ["row", "spans", "sums", "place", "begin", "end"] ["row", "spans"] (defScope ssums_by_end) := ⟨rfl, rfl, rfl, by decide +kernel, rfl, by decide +kernel, by decide +kernel⟩
theorem fn_sums_by_end (B : Bl mg bls) (D : DefAt K mg "sums_by_end" ssums_by_end ["row", "spans"]) : Fn P w K mg base 1 "sums_by_end" ["row", "spans"] (spBy K byEnd) := by
  refine D.fn scsums_by_end (fun vs H Q E h => ?_) (fun f cdv A outer s H vs Q E hr h => ?_)
  · obtain ⟨a, l, ns, ts, ps, rfl, _⟩ := h; rfl
  · obtain ⟨a, l, ns, ts, ps, rfl, hs, hl, cl, hP, ar, q⟩ := h
    refine' ⟨_, ?tm, ?rd⟩
    (case tm =>
      (conv => { arg 2; whnf })
      refine' pss_cons ?s0 ?r0
      (case s0 =>
        exact (ps_set (i := 2) scsums_by_end.nd (by rfl) (by first | exact Or.inl rfl | exact Or.inr rfl) (pe_lst (pa_cons pe_int pa_nil))))
      (case r0 =>
        refine' pss_cons ?s0x ?r0x
        (case s0x =>
          refine' ps_for PassesOwn.never (by rfl) ?i0x ?g0x ?d0x
          (case i0x => exact (pi_enum (by rfl) (B "enumerate" (by decide +kernel)) (pa_cons (pv 1) pa_nil)))
          (case g0x => exact (pg_tup (by rfl) (pgs_cons (pg_name (i := 3) scsums_by_end.nd (by rfl) (by first | exact Or.inl rfl | exact Or.inr rfl)) (pgs_cons (pg_tup (by rfl) (pgs_cons (pg_name (i := 4) scsums_by_end.nd (by rfl) (by first | exact Or.inl rfl | exact Or.inr rfl)) (pgs_cons (pg_name (i := 5) scsums_by_end.nd (by rfl) (by first | exact Or.inl rfl | exact Or.inr rfl)) pgs_nil))) pgs_nil))))
          (case d0x =>
            refine' pss_one ?s0xf
            (case s0xf =>
              exact (ps_expr (pe_bm PySem.F.plainAttrs_list PySem.F.slot_list_append PySem.F.type_list_append mt_append (pv 2) (pa_cons (pe_op op_add (pe_op op_mul (pe_ix ix_list (pv 0) (pv 3) (fun _ _ => rfl)) (pe_op op_add (pe_op op_sub (pv 3) (pv 4)) pe_int)) (pe_ix ix_list (pv 2) (pv 4) (fun _ _ => rfl))) pa_nil))))))
        (case r0x =>
          refine' pss_one ?s0xx
          (case s0xx =>
            exact (ps_ret (pv 2))))))
    have hpl := ar.1
    have htl : ts.length = ps.length := hP.1
    refine ⟨(by show 1 ≤ sizeLine; decide), fun pe hpe => ?_⟩
    have s1 := Same.new (o := .lst [.int 0]) hpe
    have c1 : upd H pe (.lst [.int 0]) pe = some (.lst (((List.range (0 + 1)).map (bE ns)).map V.int)) := upd_same
    generalize upd H pe (.lst [.int 0]) = H1 at s1 c1 ⊢
    refine ⟨_, rfl, l, _, rfl, SqL.of (s1 _ _ cl), for_enum (K := K) (a := l) (xs := ts.map V.ref) (fun m σ H' => ∃ v3 v4 v5 : Option V, σ = [some (.ref a), some (.ref l), some (.ref pe), v3, v4, v5] ∧ H' pe = some (.lst (((List.range (m + 1)).map (bE ns)).map V.int)) ∧ Same H H')
      ⟨_, _, _, rfl, c1, s1⟩ (fun m σ H' _ ⟨_, _, _, _, _, k⟩ => SqL.of (k _ _ cl)) ?_ ?_⟩
    · rintro m x σ H5 T hx ⟨v3, v4, v5, rfl, c5, k5⟩ hT
      obtain ⟨t, ht, rfl⟩ := get_refsP hx
      have hm : m < ns.length := by have := (List.getElem?_eq_some_iff.mp ht).1; omega
      obtain ⟨b, e, ep, hre⟩ := pr_atP ar hm
      have h1 := hre.bi; have h2 := hre.ie; have h3 := hre.en
      have tt := hP.2 m t _ ht ep
      have s2 := Same.new (o := .tup [.int (m : Nat), .ref t]) hT
      have tt2 := s2 _ _ (k5 _ _ tt)
      have c6 := s2 _ _ c5
      refine ⟨T, _, rfl, SqT.of upd_same, rfl, _, _, rfl, _, _, rfl, ?_⟩
      generalize upd H5 T (.tup [.int (m : Nat), .ref t]) = H6 at s2 tt2 c6 ⊢
      have k6 := k5.trans s2
      refine ⟨t, _, rfl, SqT.of tt2, rfl, _, _, rfl, _, _, rfl, rfl, rfl, ?_⟩
      refine ⟨_, rfl, .inl ⟨rfl, _, SqL.of c6⟩, ?_⟩
      refine ⟨_, rfl, _, rfl, a, _, _, _, rfl, rfl, k6.seq hs, at_vl (by omega), ?_⟩
      refine ⟨_, rfl, _, rfl, _, _, rfl, rfl, _, _, rfl, rfl, _, _, rfl, rfl, .inr ?_, ?_⟩
      · show -(2 ^ 64) < (m : Int) - (b : Int) + 1 ∧ (m : Int) - (b : Int) + 1 < 2 ^ 64
        omega
      refine ⟨_, rfl, _, rfl, pe, _, _, _, rfl, rfl, SqL.of c6, at_vl (i := b) (by rw [List.length_map, List.length_range]; omega), _, _, rfl, rfl, pe, _, _, rfl, rfl, c6, ?_, ?_⟩
      · rw [List.length_map, List.length_map, List.length_range]; exact small1000 (by omega)
      · refine ⟨_, _, _, rfl, ?_, k6.at hpe⟩
        rw [upd_same, rng_at (by omega), List.range_succ (n := m + 1), List.map_append, List.map_append]
        show some (HO.lst (_ ++ [V.int (vl ns m * ((m : Int) - (b : Int) + 1) + bE ns b)])) = _
        rw [← bE_step hre]
        rfl
    · rintro σ H2 ⟨v3, v4, v5, rfl, c2, k2⟩
      refine ⟨_, rfl, ?_⟩
      rw [List.length_map, htl, hpl] at c2
      exact q pe H2 k2 hpe c2
end

end Law

set_option Elab.async false
set_option linter.all false
set_option maxRecDepth 100000
set_option maxHeartbeats 4000000
namespace Law
open PySem L2
structure GRC (K : PySem.W.Frag) (C : Addr) : Prop where
  cls : Cls K C
  row : NoAttr K C "row"
def LiveAt (C : Addr) (H : Hp) (o r : Addr) (ns : List Int) : Prop := ∃ dx, H o = some (.ins C dx [("row", .ref r)]) ∧ H r = some (.lst (ns.map V.int))
theorem LiveAt.same {C o r : Addr} {H H' : Hp} {ns : List Int} (h : LiveAt C H o r ns) (s : Same H H') : LiveAt C H' o r ns := by
  obtain ⟨dx, h1, h2⟩ := h
  exact ⟨dx, s _ _ h1, s _ _ h2⟩
theorem LiveAt.but {C o r p : Addr} {H H' : Hp} {ns : List Int} (h : LiveAt C H o r ns) (s : But p H H') (n1 : o ≠ p) (n2 : r ≠ p) : LiveAt C H' o r ns := by
  obtain ⟨dx, h1, h2⟩ := h
  exact ⟨dx, s _ _ n1 h1, s _ _ n2 h2⟩
theorem LiveAt.butS {C o r : Addr} {S : Addr → Prop} {H H' : Hp} {ns : List Int} (h : LiveAt C H o r ns) (s : ButS S H H') (n1 : ¬ S o) (n2 : ¬ S r) : LiveAt C H' o r ns := by
  obtain ⟨dx, h1, h2⟩ := h
  exact ⟨dx, s _ _ n1 h1, s _ _ n2 h2⟩
theorem LiveAt.ne {C o r : Addr} {H : Hp} {ns : List Int} (h : LiveAt C H o r ns) : o ≠ r := fun z => by
  obtain ⟨dx, h1, h2⟩ := h
  rw [z, h2] at h1; cases h1
def spGI (C : Addr) : Sp := fun vs H Q _ => ∃ (x dx : Addr), vs = [.ref x] ∧ H x = some (.ins C dx []) ∧ ∀ (H' : Hp) (r : Addr), But x H H' → H r = none → LiveAt C H' x r [] → Q .non H'
def spPut (C : Addr) : Sp := fun vs H Q _ => ∃ (o r : Addr) (ns : List Int) (n : Int), vs = [.ref o, .int n] ∧ LiveAt C H o r ns ∧ ns.length ≤ 900 ∧ ∀ H', LiveAt C H' o r (ns ++ [n]) → But r H H' → Q .non H'
def spTakeG (C : Addr) : Sp := fun vs H Q _ => ∃ (o r : Addr) (ns : List Int) (m : Int), vs = [.ref o, .int m] ∧ LiveAt C H o r ns ∧ 0 ≤ m ∧ m ≤ ns.length ∧ ∀ (H' : Hp) (r' : Addr), H r' = none → LiveAt C H' o r' (ns.take (ns.length - m.toNat)) → But o H H' → Q .non H'
def spNumbers (C : Addr) : Sp := fun vs H Q _ => ∃ (o r : Addr) (ns : List Int), vs = [.ref o] ∧ LiveAt C H o r ns ∧ ∀ (l : Addr) (H' : Hp), H l = none → Same H H' → H' l = some (.lst (ns.map V.int)) → Q (.ref l) H'
def spManyG (C : Addr) : Sp := fun vs H Q _ => ∃ (o r : Addr) (ns : List Int), vs = [.ref o] ∧ LiveAt C H o r ns ∧ Q (.int (ns.length : Int)) H
def spTold (C : Addr) (g : List Int → Int) : Sp := fun vs H Q _ => ∃ (o r : Addr) (ns : List Int), vs = [.ref o] ∧ LiveAt C H o r ns ∧ ns.length ≤ 300 ∧ ∀ H', Same H H' → Q (.int (g ns)) H'
def spLast (K : PySem.W.Frag) : Sp := fun vs H Q _ => ∃ (a : Addr) (ns : List Int), vs = [.ref a] ∧ SqL K H a (ns.map V.int) ∧ ns.length ≤ 300 ∧ ∀ H', Same H H' → Q (.int (bE ns ns.length)) H'
abbrev gLL (ns : List Int) : Int := bE ns ns.length
def spWhole : Sp := fun vs H Q _ => ∃ i : Int, vs = [.int i] ∧ Q (.bl true) H
theorem byEnd_last (ns : List Int) : atI ((byEnd ns).map V.int) (-1) = some (V.int (bE ns ns.length)) := by
  unfold byEnd
  rw [List.range_succ, List.map_append, List.map_append]
  exact atI_last _ _
section
variable {P : Program} {w : World} {K : PySem.W.Frag} {mg : Str → Option Value} {base : Heap} {C : Addr}
def xis_whole : { t : Stmt // top 9 = t } := ⟨_, by conv => { lhs; whnf }⟩
abbrev sis_whole : Stmt := xis_whole.1
theorem scis_whole : FnScope ["thing"] ["thing"] (defScope sis_whole) := ⟨rfl, rfl, rfl, by decide +kernel, rfl, by decide +kernel, by decide +kernel⟩
theorem fn_is_whole (B : Bl mg bls) (D : DefAt K mg "is_whole" sis_whole ["thing"]) : Fn P w K mg base 1 "is_whole" ["thing"] spWhole := by
  refine D.fn scis_whole (fun vs H Q E h => ?_) (fun f cdv A outer s H vs Q E hr h => ?_)
  · obtain ⟨i, rfl, _⟩ := h; rfl
  · obtain ⟨i, rfl, q⟩ := h
    refine' ⟨_, ?tm, ?rd⟩
    (case tm =>
      (conv => { arg 2; whnf })
      refine' pss_one ?s0
      (case s0 =>
        exact (ps_ret (pe_and (pe_callB call_isinst (by rfl) (B "isinstance" (by decide +kernel)) (by decide +kernel) (pa_cons (pv 0) (pa_cons (pe_bltn (v := .ty "int") (by rfl) (B "int" (by decide +kernel)) (by decide +kernel) rfl) pa_nil))) (pe_one (pe_not (pe_callB call_isinst (by rfl) (B "isinstance" (by decide +kernel)) (by decide +kernel) (pa_cons (pv 0) (pa_cons (pe_bltn (v := .ty "bool") (by rfl) (B "bool" (by decide +kernel)) (by decide +kernel) rfl) pa_nil)))))))))
    refine ⟨_, rfl, _, _, _, true, rfl, TyOf.int i, (by rfl), _, rfl, ?_⟩
    refine ⟨_, rfl, _, _, _, false, rfl, TyOf.int i, (by rfl), _, rfl, q⟩
def xlast_sum_of_leasts : { t : Stmt // top 17 = t } := ⟨_, by conv => { lhs; whnf }⟩
abbrev slast_sum_of_leasts : Stmt := xlast_sum_of_leasts.1
theorem sclast_sum_of_leasts : FnScope ["row"] ["row"] (defScope slast_sum_of_leasts) := ⟨rfl, rfl, rfl, by decide +kernel, rfl, by decide +kernel, by decide +kernel⟩
theorem fn_last_sum (B : Bl mg bls) (D : DefAt K mg "last_sum_of_leasts" slast_sum_of_leasts ["row"]) (Freaches : Fn P w K mg base 1 "reaches" ["row"] (spReaches K)) (Fsums_by_end : Fn P w K mg base 1 "sums_by_end" ["row", "spans"] (spBy K byEnd)) : Fn P w K mg base 2 "last_sum_of_leasts" ["row"] (spLast K) := by
  refine D.fn sclast_sum_of_leasts (fun vs H Q E h => ?_) (fun f cdv A outer s H vs Q E hr h => ?_)
  · obtain ⟨a, ns, rfl, _⟩ := h; rfl
  · obtain ⟨a, ns, rfl, hs, hl, q⟩ := h
    refine' ⟨_, ?tm, ?rd⟩
    (case tm =>
      (conv => { arg 2; whnf })
      refine' pss_one ?s0
      (case s0 =>
        exact (ps_ret (pe_ix ix_list (pe_fn Fsums_by_end hr (by rfl) (pa_cons (pv 0) (pa_cons (pe_fn Freaches hr (by rfl) (pa_cons (pv 0) pa_nil)) pa_nil))) (pe_un un_neg pe_int) (fun _ _ => rfl)))))
    refine ⟨_, rfl, _, rfl, a, ns, rfl, hs, hl, fun l H1 ts ps s1 fl cl hP ar => ?_⟩
    rw [show (ns.map fun n => n) = ns from List.map_id' ns] at ar
    refine ⟨a, l, ns, ts, ps, rfl, s1.seq hs, hl, cl, hP, ar, fun e H2 s2 fe ce => ?_⟩
    exact ⟨_, rfl, e, _, _, _, rfl, rfl, SqL.of ce, byEnd_last ns, q H2 (s1.trans s2)⟩
def xGrowing___init__ : { t : Stmt // inClass (top 18) 0 = t } := ⟨_, by conv => { lhs; whnf }⟩
abbrev sGrowing___init__ : Stmt := xGrowing___init__.1
theorem scGrowing___init__ : FnScope ["self"] ["self"] (defScope sGrowing___init__) := ⟨rfl, rfl, rfl, by decide +kernel, rfl, by decide +kernel, by decide +kernel⟩
theorem fn_GI (B : Bl mg bls) (rc : GRC K C) (D : DefI K mg "Growing" C "Growing.__init__" sGrowing___init__ ["self"]) : IFn P w K mg base 1 "Growing" C ["self"] (spGI C) := by
  refine D.fn scGrowing___init__ (fun vs H Q E h => ?_) (fun f cdv A outer s H vs Q E hr h => ?_)
  · obtain ⟨x, dx, rfl, _⟩ := h; rfl
  · obtain ⟨x, dx, rfl, hx, q⟩ := h
    refine' ⟨_, ?tm, ?rd⟩
    (case tm =>
      (conv => { arg 2; whnf })
      refine' pss_one ?s0
      (case s0 =>
        exact (ps_fld (pv 0) (pe_lst pa_nil) (by rfl))))
    refine ⟨(by show 0 ≤ sizeLine; decide), fun r hr0 => ?_⟩
    have s1 := Same.new (o := .lst []) hr0
    have nrx : r ≠ x := (ne_of_none hx hr0).symm
    refine ⟨_, rfl, x, C, dx, _, rfl, s1 _ _ hx, rc.cls, rc.row, (by show 0 < 1000; decide), ?_⟩
    refine q _ r (s1.but.trans (But.upd _)) hr0 ⟨dx, upd_same, ?_⟩
    rw [upd_ne nrx]; exact upd_same
def xGrowing_put : { t : Stmt // inClass (top 18) 1 = t } := ⟨_, by conv => { lhs; whnf }⟩
abbrev sGrowing_put : Stmt := xGrowing_put.1
theorem scGrowing_put : FnScope ["self", "number"] ["self", "number"] (defScope sGrowing_put) := ⟨rfl, rfl, rfl, by decide +kernel, rfl, by decide +kernel, by decide +kernel⟩
theorem fn_put (B : Bl mg bls) (rc : GRC K C) (D : DefM K C "put" "Growing.put" sGrowing_put ["self", "number"]) (Fis_whole : Fn P w K mg base 1 "is_whole" ["thing"] spWhole) : MFn P w K mg base 2 C "put" ["self", "number"] (spPut C) := by
  refine D.fn scGrowing_put (fun vs H Q E h => ?_) (fun f cdv A outer s H vs Q E hr h => ?_)
  · obtain ⟨o, r, ns, n, rfl, _⟩ := h; rfl
  · obtain ⟨o, r, ns, n, rfl, lv, hl, q⟩ := h
    have nor := lv.ne
    obtain ⟨dx, ho, cr⟩ := lv
    refine' ⟨_, ?tm, ?rd⟩
    (case tm =>
      (conv => { arg 2; whnf })
      refine' pss_cons ?s0 ?r0
      (case s0 =>
        refine' ps_if ?c0 ?a0 ?b0
        (case c0 => exact (pt_not (pt_val (pe_fn Fis_whole hr (by rfl) (pa_cons (pv 1) pa_nil)))))
        (case a0 =>
          refine' pss_one ?s0i
          (case s0i =>
            exact ps_never))
        (case b0 =>
          exact pss_nil))
      (case r0 =>
        refine' pss_one ?s0x
        (case s0x =>
          exact (ps_expr (pe_bm PySem.F.plainAttrs_list PySem.F.slot_list_append PySem.F.type_list_append mt_append (pe_fld (pv 0) (by rfl)) (pa_cons (pv 1) pa_nil))))))
    refine ⟨_, rfl, n, rfl, _, rfl, ?_⟩
    refine ⟨_, rfl, o, C, dx, _, _, rfl, ho, rc.cls, rc.row, rfl, .inl ⟨rfl, _, SqL.of cr⟩, _, rfl, r, _, _, rfl, rfl, cr, by rw [List.length_map]; exact small1000 (by omega), ?_⟩
    refine q _ ⟨dx, by rw [upd_ne nor]; exact ho, ?_⟩ (But.upd _)
    rw [upd_same, List.map_append]; rfl
def xGrowing_take : { t : Stmt // inClass (top 18) 2 = t } := ⟨_, by conv => { lhs; whnf }⟩
abbrev sGrowing_take : Stmt := xGrowing_take.1
theorem scGrowing_take : FnScope ["self", "many"] ["self", "many"] (defScope sGrowing_take) := ⟨rfl, rfl, rfl, by decide +kernel, rfl, by decide +kernel, by decide +kernel⟩
theorem fn_takeG (B : Bl mg bls) (rc : GRC K C) (D : DefM K C "take" "Growing.take" sGrowing_take ["self", "many"]) (Fis_whole : Fn P w K mg base 1 "is_whole" ["thing"] spWhole) : MFn P w K mg base 2 C "take" ["self", "many"] (spTakeG C) := by
  refine D.fn scGrowing_take (fun vs H Q E h => ?_) (fun f cdv A outer s H vs Q E hr h => ?_)
  · obtain ⟨o, r, ns, n, rfl, _⟩ := h; rfl
  · obtain ⟨o, r, ns, m, rfl, lv, m0, m1, q⟩ := h
    have nor := lv.ne
    obtain ⟨dx, ho, cr⟩ := lv
    refine' ⟨_, ?tm, ?rd⟩
    (case tm =>
      (conv => { arg 2; whnf })
      refine' pss_cons ?s0 ?r0
      (case s0 =>
        refine' ps_if ?c0 ?a0 ?b0
        (case c0 => exact (PW.pt (pw_or (pt_not (pt_val (pe_fn Fis_whole hr (by rfl) (pa_cons (pv 1) pa_nil)))) (pw_or1 (pt_not (pt_chain op_le op_le pe_int (pv 1) (pe_callB call_len_seq (by rfl) (B "len" (by decide +kernel)) (by decide +kernel) (pa_cons (pe_fld (pv 0) (by rfl)) pa_nil))))))))
        (case a0 =>
          refine' pss_one ?s0i
          (case s0i =>
            exact ps_never))
        (case b0 =>
          exact pss_nil))
      (case r0 =>
        refine' pss_one ?s0x
        (case s0x =>
          exact (ps_fld (pv 0) (pe_slice sl_list (pe_fld (pv 0) (by rfl)) po_none (po_some (pe_op op_sub (pe_callB call_len_seq (by rfl) (B "len" (by decide +kernel)) (by decide +kernel) (pa_cons (pe_fld (pv 0) (by rfl)) pa_nil)) (pv 1)))) (by rfl)))))
    refine seqJ (fun σ' H' => σ' = [some (.ref o), some (.int m)] ∧ H' = H) (fun fin => ?_) ?_
    · refine ⟨_, rfl, m, rfl, _, rfl, ?_⟩
      refine ⟨_, rfl, _, _, rfl, rfl, _, rfl, ?_⟩
      refine ite2 (fun _ => ?_) (fun z => absurd (decide_eq_true m0) z)
      refine ⟨_, rfl, o, C, dx, _, _, rfl, ho, rc.cls, rc.row, rfl, r, _, rfl, .inl (SqL.of cr), _, _, rfl, rfl, _, rfl, ?_⟩
      have e3 : decide (m ≤ (((ns.map V.int).length : Nat) : Int)) = true := decide_eq_true (by rw [List.length_map]; exact m1)
      rw [e3]
      exact fin _ _ ⟨rfl, rfl⟩
    rintro _ H1 ⟨rfl, rfl⟩
    refine ⟨_, rfl, o, C, dx, _, _, rfl, ho, rc.cls, rc.row, rfl, _, rfl, o, C, dx, _, _, rfl, ho, rc.cls, rc.row, rfl, r, _, rfl, .inl (SqL.of cr), _, rfl, _, _, rfl, rfl, _, rfl, r, _, rfl, SqL.of cr, fun p hp => ?_⟩
    have s1 := Same.new (o := .lst (cutV (ns.map V.int) none (some ((((ns.map V.int).length : Nat) : Int) - m)))) hp
    have npo : p ≠ o := (ne_of_none ho hp).symm
    refine ⟨_, rfl, o, C, dx, _, rfl, s1 _ _ ho, rc.cls, rc.row, (by show 1 < 1000; decide), ?_⟩
    refine q _ p hp ⟨dx, upd_same, ?_⟩ (s1.but.trans (But.upd _))
    rw [upd_ne npo, upd_same, cut_ints, List.length_map, cutI_to _ _ (by omega)]
    rw [show ((ns.length : Int) - m).toNat = ns.length - m.toNat by omega]
def xGrowing_numbers : { t : Stmt // inClass (top 18) 3 = t } := ⟨_, by conv => { lhs; whnf }⟩
abbrev sGrowing_numbers : Stmt := xGrowing_numbers.1
theorem scGrowing_numbers : FnScope ["self"] ["self"] (defScope sGrowing_numbers) := ⟨rfl, rfl, rfl, by decide +kernel, rfl, by decide +kernel, by decide +kernel⟩
theorem fn_numbers (B : Bl mg bls) (rc : GRC K C) (D : DefM K C "numbers" "Growing.numbers" sGrowing_numbers ["self"]) : MFn P w K mg base 1 C "numbers" ["self"] (spNumbers C) := by
  refine D.fn scGrowing_numbers (fun vs H Q E h => ?_) (fun f cdv A outer s H vs Q E hr h => ?_)
  · obtain ⟨o, r, ns, rfl, _⟩ := h; rfl
  · obtain ⟨o, r, ns, rfl, ⟨dx, ho, cr⟩, q⟩ := h
    refine' ⟨_, ?tm, ?rd⟩
    (case tm =>
      (conv => { arg 2; whnf })
      refine' pss_one ?s0
      (case s0 =>
        exact (ps_ret (pe_callTy call_list_of (by rfl) (B "list" (by decide +kernel)) (by decide +kernel) (pa_cons (pe_fld (pv 0) (by rfl)) pa_nil)))))
    exact ⟨_, rfl, o, C, dx, _, _, rfl, ho, rc.cls, rc.row, rfl, r, _, rfl, .inl (SqL.of cr), fun l hl => q l _ hl (Same.new hl) upd_same⟩
def xGrowing_many : { t : Stmt // inClass (top 18) 4 = t } := ⟨_, by conv => { lhs; whnf }⟩
abbrev sGrowing_many : Stmt := xGrowing_many.1
theorem scGrowing_many : FnScope ["self"] ["self"] (defScope sGrowing_many) := ⟨rfl, rfl, rfl, by decide +kernel, rfl, by decide +kernel, by decide +kernel⟩
theorem fn_manyG (B : Bl mg bls) (rc : GRC K C) (D : DefM K C "many" "Growing.many" sGrowing_many ["self"]) : MFn P w K mg base 1 C "many" ["self"] (spManyG C) := by
  refine D.fn scGrowing_many (fun vs H Q E h => ?_) (fun f cdv A outer s H vs Q E hr h => ?_)
  · obtain ⟨o, r, ns, rfl, _⟩ := h; rfl
  · obtain ⟨o, r, ns, rfl, ⟨dx, ho, cr⟩, q⟩ := h
    refine' ⟨_, ?tm, ?rd⟩
    (case tm =>
      (conv => { arg 2; whnf })
      refine' pss_one ?s0
      (case s0 =>
        exact (ps_ret (pe_callB call_len_seq (by rfl) (B "len" (by decide +kernel)) (by decide +kernel) (pa_cons (pe_fld (pv 0) (by rfl)) pa_nil)))))
    refine ⟨_, rfl, o, C, dx, _, _, rfl, ho, rc.cls, rc.row, rfl, r, _, rfl, .inl (SqL.of cr), ?_⟩
    rw [List.length_map]
    exact q
def xGrowing_leasts : { t : Stmt // inClass (top 18) 5 = t } := ⟨_, by conv => { lhs; whnf }⟩
abbrev sGrowing_leasts : Stmt := xGrowing_leasts.1
theorem scGrowing_leasts : FnScope ["self"] ["self"] (defScope sGrowing_leasts) := ⟨rfl, rfl, rfl, by decide +kernel, rfl, by decide +kernel, by decide +kernel⟩
theorem fn_leastsG (B : Bl mg bls) (rc : GRC K C) (D : DefM K C "leasts" "Growing.leasts" sGrowing_leasts ["self"]) (Fsum_of_leasts : Fn P w K mg base 3 "sum_of_leasts" ["row"] (spSum K minL)) : MFn P w K mg base 4 C "leasts" ["self"] (spTold C fun ns => sumSt ns minL) := by
  refine D.fn scGrowing_leasts (fun vs H Q E h => ?_) (fun f cdv A outer s H vs Q E hr h => ?_)
  · obtain ⟨o, r, ns, rfl, _⟩ := h; rfl
  · obtain ⟨o, r, ns, rfl, ⟨dx, ho, cr⟩, hl, q⟩ := h
    refine' ⟨_, ?tm, ?rd⟩
    (case tm =>
      (conv => { arg 2; whnf })
      refine' pss_one ?s0
      (case s0 =>
        exact (ps_ret (pe_fn Fsum_of_leasts hr (by rfl) (pa_cons (pe_fld (pv 0) (by rfl)) pa_nil)))))
    exact ⟨_, rfl, o, C, dx, _, _, rfl, ho, rc.cls, rc.row, rfl, r, ns, rfl, SqL.of cr, hl, fun H' s => q H' s⟩
def xGrowing_greatests : { t : Stmt // inClass (top 18) 6 = t } := ⟨_, by conv => { lhs; whnf }⟩
abbrev sGrowing_greatests : Stmt := xGrowing_greatests.1
theorem scGrowing_greatests : FnScope ["self"] ["self"] (defScope sGrowing_greatests) := ⟨rfl, rfl, rfl, by decide +kernel, rfl, by decide +kernel, by decide +kernel⟩
theorem fn_greatestsG (B : Bl mg bls) (rc : GRC K C) (D : DefM K C "greatests" "Growing.greatests" sGrowing_greatests ["self"]) (Fsum_of_greatests : Fn P w K mg base 4 "sum_of_greatests" ["row"] (spSum K maxL)) : MFn P w K mg base 5 C "greatests" ["self"] (spTold C fun ns => sumSt ns maxL) := by
  refine D.fn scGrowing_greatests (fun vs H Q E h => ?_) (fun f cdv A outer s H vs Q E hr h => ?_)
  · obtain ⟨o, r, ns, rfl, _⟩ := h; rfl
  · obtain ⟨o, r, ns, rfl, ⟨dx, ho, cr⟩, hl, q⟩ := h
    refine' ⟨_, ?tm, ?rd⟩
    (case tm =>
      (conv => { arg 2; whnf })
      refine' pss_one ?s0
      (case s0 =>
        exact (ps_ret (pe_fn Fsum_of_greatests hr (by rfl) (pa_cons (pe_fld (pv 0) (by rfl)) pa_nil)))))
    exact ⟨_, rfl, o, C, dx, _, _, rfl, ho, rc.cls, rc.row, rfl, r, ns, rfl, SqL.of cr, hl, fun H' s => q H' s⟩
def xGrowing_spreads : { t : Stmt // inClass (top 18) 7 = t } := ⟨_, by conv => { lhs; whnf }⟩
abbrev sGrowing_spreads : Stmt := xGrowing_spreads.1
theorem scGrowing_spreads : FnScope ["self"] ["self"] (defScope sGrowing_spreads) := ⟨rfl, rfl, rfl, by decide +kernel, rfl, by decide +kernel, by decide +kernel⟩
theorem fn_spreadsG (B : Bl mg bls) (rc : GRC K C) (D : DefM K C "spreads" "Growing.spreads" sGrowing_spreads ["self"]) (Fsum_of_spreads : Fn P w K mg base 5 "sum_of_spreads" ["row"] (spSum K fun l => maxL l - minL l)) : MFn P w K mg base 6 C "spreads" ["self"] (spTold C fun ns => sumSt ns maxL - sumSt ns minL) := by
  refine D.fn scGrowing_spreads (fun vs H Q E h => ?_) (fun f cdv A outer s H vs Q E hr h => ?_)
  · obtain ⟨o, r, ns, rfl, _⟩ := h; rfl
  · obtain ⟨o, r, ns, rfl, ⟨dx, ho, cr⟩, hl, q⟩ := h
    refine' ⟨_, ?tm, ?rd⟩
    (case tm =>
      (conv => { arg 2; whnf })
      refine' pss_one ?s0
      (case s0 =>
        exact (ps_ret (pe_fn Fsum_of_spreads hr (by rfl) (pa_cons (pe_fld (pv 0) (by rfl)) pa_nil)))))
    refine ⟨_, rfl, o, C, dx, _, _, rfl, ho, rc.cls, rc.row, rfl, r, ns, rfl, SqL.of cr, hl, fun H' s => ?_⟩
    rw [sumSt_spread]
    exact q H' s
def xGrowing_last_leasts : { t : Stmt // inClass (top 18) 8 = t } := ⟨_, by conv => { lhs; whnf }⟩
abbrev sGrowing_last_leasts : Stmt := xGrowing_last_leasts.1
theorem scGrowing_last_leasts : FnScope ["self"] ["self"] (defScope sGrowing_last_leasts) := ⟨rfl, rfl, rfl, by decide +kernel, rfl, by decide +kernel, by decide +kernel⟩
theorem fn_last_leasts (B : Bl mg bls) (rc : GRC K C) (D : DefM K C "last_leasts" "Growing.last_leasts" sGrowing_last_leasts ["self"]) (Flast_sum_of_leasts : Fn P w K mg base 2 "last_sum_of_leasts" ["row"] (spLast K)) : MFn P w K mg base 3 C "last_leasts" ["self"] (spTold C gLL) := by
  refine D.fn scGrowing_last_leasts (fun vs H Q E h => ?_) (fun f cdv A outer s H vs Q E hr h => ?_)
  · obtain ⟨o, r, ns, rfl, _⟩ := h; rfl
  · obtain ⟨o, r, ns, rfl, ⟨dx, ho, cr⟩, hl, q⟩ := h
    refine' ⟨_, ?tm, ?rd⟩
    (case tm =>
      (conv => { arg 2; whnf })
      refine' pss_one ?s0
      (case s0 =>
        exact (ps_ret (pe_fn Flast_sum_of_leasts hr (by rfl) (pa_cons (pe_fld (pv 0) (by rfl)) pa_nil)))))
    exact ⟨_, rfl, o, C, dx, _, _, rfl, ho, rc.cls, rc.row, rfl, r, ns, rfl, SqL.of cr, hl, fun H' s => q H' s⟩
def xGrowing_last_greatests : { t : Stmt // inClass (top 18) 9 = t } := ⟨_, by conv => { lhs; whnf }⟩
abbrev sGrowing_last_greatests : Stmt := xGrowing_last_greatests.1
theorem scGrowing_last_greatests : FnScope ["self", "number"] ["self"] (defScope sGrowing_last_greatests) := ⟨rfl, rfl, rfl, by decide +kernel, rfl, by decide +kernel, by decide +kernel⟩
theorem fn_last_greatests (B : Bl mg bls) (rc : GRC K C) (D : DefM K C "last_greatests" "Growing.last_greatests" sGrowing_last_greatests ["self"]) (Flast_sum_of_leasts : Fn P w K mg base 2 "last_sum_of_leasts" ["row"] (spLast K)) : MFn P w K mg base 3 C "last_greatests" ["self"] (spTold C gE) := by
  refine D.fn scGrowing_last_greatests (fun vs H Q E h => ?_) (fun f cdv A outer s H vs Q E hr h => ?_)
  · obtain ⟨o, r, ns, rfl, _⟩ := h; rfl
  · obtain ⟨o, r, ns, rfl, ⟨dx, ho, cr⟩, hl, q⟩ := h
    refine' ⟨_, ?tm, ?rd⟩
    (case tm =>
      (conv => { arg 2; whnf })
      refine' pss_one ?s0
      (case s0 =>
        exact (ps_ret (pe_un un_neg (pe_fn Flast_sum_of_leasts hr (by rfl) (pa_cons (pe_lc (own := [("number", 1)]) (g := (gName 1)) (by rfl) scGrowing_last_greatests.nd (pi_list (pe_fld (pv 0) (by rfl))) (blkOk_by (own := [("number", 1)]) (N := ["self", "number"]) (sc := defScope sGrowing_last_greatests) (by decide +kernel)) (fun _ _ _ _ _ => (pg_name (i := 1) scGrowing_last_greatests.nd (by rfl) (by first | exact Or.inl rfl | exact Or.inr rfl))) (fun _ _ _ _ _ => pts_nil) (fun _ _ _ _ _ => (pe_un un_neg (pv 1)))) pa_nil))))))
    refine ⟨_, rfl, o, C, dx, _, _, rfl, ho, rc.cls, rc.row, rfl, r, rfl, ⟨_, SqL.of cr⟩, fun D1 hD1 => lc_mapI (f := fun n => -n) (SqL.of cr) hD1 (by omega) (fun v => rfl) (fun n H' R r => ⟨_, rfl, _, rfl, r⟩) ?_⟩
    refine ⟨D1, ns.map (fun n => -n), rfl, SqL.of upd_same, by rw [List.length_map]; exact hl, fun H2 s2 => ⟨_, rfl, ?_⟩⟩
    show Q (.int (-(bE (ns.map fun n => -n) (ns.map fun n => -n).length))) H2
    rw [gE_neg]
    exact q H2 ((Same.new hD1).trans s2)
def xGrowing_last_spreads : { t : Stmt // inClass (top 18) 10 = t } := ⟨_, by conv => { lhs; whnf }⟩
abbrev sGrowing_last_spreads : Stmt := xGrowing_last_spreads.1
theorem scGrowing_last_spreads : FnScope ["self"] ["self"] (defScope sGrowing_last_spreads) := ⟨rfl, rfl, rfl, by decide +kernel, rfl, by decide +kernel, by decide +kernel⟩
theorem fn_last_spreads (B : Bl mg bls) (D : DefM K C "last_spreads" "Growing.last_spreads" sGrowing_last_spreads ["self"]) (MGrowing_last_leasts : MFn P w K mg base 3 C "last_leasts" ["self"] (spTold C gLL)) (MGrowing_last_greatests : MFn P w K mg base 3 C "last_greatests" ["self"] (spTold C gE)) : MFn P w K mg base 4 C "last_spreads" ["self"] (spTold C fun ns => gE ns - gLL ns) := by
  refine D.fn scGrowing_last_spreads (fun vs H Q E h => ?_) (fun f cdv A outer s H vs Q E hr h => ?_)
  · obtain ⟨o, r, ns, rfl, _⟩ := h; rfl
  · obtain ⟨o, r, ns, rfl, lv, hl, q⟩ := h
    obtain ⟨dx, ho, cr⟩ := id lv
    refine' ⟨_, ?tm, ?rd⟩
    (case tm =>
      (conv => { arg 2; whnf })
      refine' pss_one ?s0
      (case s0 =>
        exact (ps_ret (pe_op op_sub (pe_methC0 (pv 0) MGrowing_last_greatests hr) (pe_methC0 (pv 0) MGrowing_last_leasts hr)))))
    refine ⟨_, rfl, o, dx, _, rfl, ho, rfl, o, r, ns, rfl, lv, hl, fun H1 s1 => ?_⟩
    refine ⟨_, rfl, o, dx, _, rfl, s1 _ _ ho, rfl, o, r, ns, rfl, lv.same s1, hl, fun H2 s2 => ⟨_, _, rfl, rfl, ?_⟩⟩
    exact q H2 (s1.trans s2)
end

end Law

set_option Elab.async false
set_option linter.all false
set_option maxRecDepth 100000
set_option maxHeartbeats 4000000
namespace Law
open PySem L2
def spNum37 (K : PySem.W.Frag) : Sp := fun vs H Q _ => ∃ (p a : Addr) (ns : List Int), vs = [.ref p, .ref a] ∧ Draws H p ∧ SqL K H a (ns.map V.int) ∧ a ≠ p ∧ ns.length ≤ 300 ∧ ∀ got H', -1000000000000 ≤ got → got ≤ 1000000000000 → Draws H' p → But p H H' → Q (.int got) H'
def spDeed (C : Addr) : Sp := fun vs H Q _ => ∃ (p o r a : Addr) (ns : List Int), vs = [.ref p, .ref o, .ref a] ∧ Draws H p ∧ LiveAt C H o r ns ∧ H a = some (.lst (ns.map V.int)) ∧ o ≠ p ∧ r ≠ p ∧ a ≠ p ∧ a ≠ r ∧ ns.length ≤ 300 ∧ (∀ n ∈ ns, B13 n) ∧
  ∀ (a' r' : Addr) (H' : Hp) (ms : List Int), H a' = none → (r' = r ∨ H r' = none) → a' ≠ r' → LiveAt C H' o r' ms → H' a' = some (.lst (ms.map V.int)) → ms.length ≤ 300 → ms.length ≤ ns.length + 1 → (∀ n ∈ ms, B13 n) → Draws H' p → ButS (fun b => b = p ∨ b = o ∨ b = r) H H' → Q (.ref a') H'
def spGrown (K : PySem.W.Frag) (C : Addr) : Sp := fun vs H Q _ => ∃ (a : Addr) (ns : List Int), vs = [.ref a] ∧ SqL K H a (ns.map V.int) ∧ ns.length ≤ 300 ∧ ∀ (o r : Addr) (H' : Hp), H o = none → H r = none → Same H H' → LiveAt C H' o r ns → Q (.ref o) H'
section
variable {P : Program} {w : World} {K : PySem.W.Frag} {mg : Str → Option Value} {base : Heap} {C : Addr}
def x_law_number : { t : Stmt // top 23 = t } := ⟨_, by conv => { lhs; whnf }⟩
abbrev s_law_number : Stmt := x_law_number.1
theorem sc_law_number : FnScope ["draws", "row", "number", "far"] ["draws", "row"] (defScope s_law_number) := ⟨rfl, rfl, rfl, by decide +kernel, rfl, by decide +kernel, by decide +kernel⟩
theorem fn_number37 (B : Bl mg bls) (D : DefAt K mg "_law_number" s_law_number ["draws", "row"]) (F_law_take : Fn P w K mg base 1 "_law_take" ["draws", "many"] spTake) : Fn P w K mg base 2 "_law_number" ["draws", "row"] (spNum37 K) := by
  refine D.fn sc_law_number (fun vs H Q E h => ?_) (fun f cdv A outer s H vs Q E hr h => ?_)
  · obtain ⟨p, a, ns, rfl, _⟩ := h; rfl
  · obtain ⟨p, a, ns, rfl, hD, hs, nap, hl, q⟩ := h
    have e12 : (10 : Int) ^ Int.toNat 12 = 1000000000000 := by decide
    refine' ⟨_, ?tm, ?rd⟩
    (case tm =>
      (conv => { arg 2; whnf })
      refine' pss_cons ?s0 ?r0
      (case s0 =>
        refine' ps_if ?c0 ?a0 ?b0
        (case c0 => exact (PW.pt (pw_and (pt_cmpR (op_neLI hr.units) (pv 1) (pe_lst pa_nil) (nomark _)) (pw_and1 (pt_cmpR op_gt (pe_fn F_law_take hr (by rfl) (pa_cons (pv 0) (pa_cons pe_int pa_nil))) pe_int (nomark _))))))
        (case a0 =>
          refine' pss_cons ?s0i ?r0i
          (case s0i =>
            exact (ps_set (i := 2) sc_law_number.nd (by rfl) (by first | exact Or.inl rfl | exact Or.inr rfl) (pe_op op_add (pe_ix ix_list (pv 1) (pe_op op_mod (pe_fn F_law_take hr (by rfl) (pa_cons (pv 0) (pa_cons pe_int pa_nil))) (pe_callB call_len_seq (by rfl) (B "len" (by decide +kernel)) (by decide +kernel) (pa_cons (pv 1) pa_nil))) (fun _ _ => rfl)) (pe_ix ix_list (pe_lst (pa_cons pe_int (pa_cons pe_int (pa_cons pe_int (pa_cons (pe_un un_neg pe_int) pa_nil))))) (pe_fn F_law_take hr (by rfl) (pa_cons (pv 0) (pa_cons pe_int pa_nil))) (fun _ _ => rfl)))))
          (case r0i =>
            refine' pss_one ?s0ix
            (case s0ix =>
              exact (ps_ret (pe_callB (call_max2 rfl) (by rfl) (B "max" (by decide +kernel)) (by decide +kernel) (pa_cons (pe_op op_sub pe_int (pe_op op_pow pe_int pe_int)) (pa_cons (pe_callB (call_min2 rfl) (by rfl) (B "min" (by decide +kernel)) (by decide +kernel) (pa_cons (pe_op op_pow pe_int pe_int) (pa_cons (pv 2) pa_nil))) pa_nil)))))))
        (case b0 =>
          exact pss_nil))
      (case r0 =>
        refine' pss_cons ?s0x ?r0x
        (case s0x =>
          exact (ps_set (i := 3) sc_law_number.nd (by rfl) (by first | exact Or.inl rfl | exact Or.inr rfl) (pe_op op_sub (pe_op op_mod (pe_op op_add (pe_op op_mul (pe_fn F_law_take hr (by rfl) (pa_cons (pv 0) (pa_cons pe_int pa_nil))) pe_int) (pe_fn F_law_take hr (by rfl) (pa_cons (pv 0) (pa_cons pe_int pa_nil)))) (pe_op op_add (pe_op op_mul pe_int (pe_op op_pow pe_int pe_int)) pe_int)) (pe_op op_pow pe_int pe_int))))
        (case r0x =>
          refine' pss_one ?s0xx
          (case s0xx =>
            exact (ps_ret (pe_ix ix_list (pe_lst (pa_cons (pv 3) (pa_cons (pe_op op_pow pe_int pe_int) (pa_cons (pe_op op_sub pe_int (pe_op op_pow pe_int pe_int)) (pa_cons (pe_op op_sub (pe_fn F_law_take hr (by rfl) (pa_cons (pv 0) (pa_cons pe_int pa_nil))) pe_int) (pa_cons pe_int pa_nil)))))) (pe_fn F_law_take hr (by rfl) (pa_cons (pv 0) (pa_cons pe_int pa_nil))) (fun _ _ => rfl)))))))
    refine seqJ (fun σ' H' => σ' = [some (.ref p), some (.ref a), none, none] ∧ But p H H' ∧ Draws H' p) (fun fin => ?_) ?_
    · refine ⟨_, rfl, (by show 0 ≤ sizeLine; decide), fun q1 hq1 => ?_⟩
      have s1 := Same.new (o := .lst []) hq1
      refine ⟨a, q1, ns, [], rfl, rfl, s1.seq hs, SqL.of upd_same, _, rfl, ?_⟩
      have hD1 := hD.same s1
      generalize upd H q1 (.lst []) = H1 at s1 hD1 ⊢
      refine ite2 (fun z => ?_) (fun _ => fin _ _ ⟨rfl, s1.but, hD1⟩)
      have hne : ns ≠ [] := by simpa using z
      have hpos : 0 < ns.length := List.length_pos_iff.mpr hne
      refine ⟨_, rfl, p, _, rfl, hD1, by decide, fun g2 H2 a2 b2 _ hD2 k2 => ?_⟩
      refine ⟨_, _, rfl, rfl, _, rfl, ?_⟩
      refine ite2 (fun _ => ?_) (fun _ => fin _ _ ⟨rfl, s1.but.trans k2, hD2⟩)
      refine ⟨_, rfl, _, rfl, p, _, rfl, hD2, by decide, fun g3 H3 a3 b3 _ hD3 k3 => ?_⟩
      have k03 := (s1.but.trans k2).trans k3
      have hs3 := k03.seq nap hs
      refine ⟨_, rfl, a, _, rfl, .inl hs3, _, _, rfl, rfl, (by show (0 : Int) < ((ns.map V.int).length : Nat); rw [List.length_map]; omega), ?_⟩
      obtain ⟨v, hv, ev⟩ := at_pick (ns := ns) (i := g3 % ((ns.map V.int).length : Nat)) (Int.emod_nonneg _ (by rw [List.length_map]; omega)) (by
        have := Int.emod_lt_of_pos g3 (show (0 : Int) < ((ns.map V.int).length : Nat) by rw [List.length_map]; omega)
        rw [List.length_map] at this ⊢; omega)
      refine ⟨a, _, _, _, rfl, rfl, hs3, ev, ?_⟩
      refine ⟨_, rfl, (by show 4 ≤ sizeLine; decide), fun q2 hq2 => ?_⟩
      have nq2 := hD3.ne hq2
      refine ⟨_, rfl, p, _, rfl, hD3.new hq2, by decide, fun g4 H4 a4 b4 _ hD4 k4 => ?_⟩
      obtain ⟨u, hu, eu⟩ := at_pick (ns := [0, 0, 1, -1]) a4 b4
      refine ⟨_, _, _, _, rfl, rfl, SqL.of (k4 _ _ nq2 upd_same), eu, _, _, rfl, rfl, ?_⟩
      dsimp only [gName]
      refine ⟨_, _, rfl, rfl, ⟨by decide, by decide, by decide⟩, _, _, rfl, rfl, _, _, rfl, rfl, ⟨by decide, by decide, by decide⟩, _, rfl, _, _, rfl, _, _, rfl, ?_⟩
      rw [e12]
      refine q _ _ ?_ ?_ hD4 ((k03.trans (But.new hq2)).trans k4)
      · split <;> split <;> omega
      · split <;> split <;> omega
    rintro _ H1 ⟨rfl, k1, hD1⟩
    refine ⟨_, rfl, p, _, rfl, hD1, by decide, fun g2 H2 a2 b2 _ hD2 k2 => ?_⟩
    refine ⟨_, _, rfl, rfl, .inr ⟨by decide, by decide⟩, ?_⟩
    refine ⟨_, rfl, p, _, rfl, hD2, by decide, fun g3 H3 a3 b3 _ hD3 k3 => ⟨_, _, rfl, rfl, ?_⟩⟩
    refine ⟨_, _, rfl, rfl, ⟨by decide, by decide, by decide⟩, _, _, rfl, rfl, .inl ⟨by decide, by decide⟩, _, _, rfl, rfl, _, _, rfl, rfl, (by rw [e12]; show (0 : Int) < 2 * 1000000000000 + 1; decide), _, _, rfl, rfl, ⟨by decide, by decide, by decide⟩, _, _, rfl, rfl, ?_⟩
    dsimp only [gName]
    rw [e12]
    have fb : 0 ≤ (g2 * 2002002002 + g3) % (2 * 1000000000000 + 1) ∧ (g2 * 2002002002 + g3) % (2 * 1000000000000 + 1) < 2 * 1000000000000 + 1 := ⟨Int.emod_nonneg _ (by decide), Int.emod_lt_of_pos _ (by decide)⟩
    generalize (g2 * 2002002002 + g3) % (2 * 1000000000000 + 1) = far at fb ⊢
    refine ⟨_, rfl, _, _, rfl, rfl, ⟨by decide, by decide, by decide⟩, _, _, rfl, rfl, ⟨by decide, by decide, by decide⟩, _, _, rfl, rfl, ?_⟩
    refine ⟨_, rfl, p, _, rfl, hD3, by decide, fun g4 H4 a4 b4 _ hD4 k4 => ⟨_, _, rfl, rfl, ?_⟩⟩
    refine ⟨(by show 5 ≤ sizeLine; decide), fun q2 hq2 => ?_⟩
    have nq2 := hD4.ne hq2
    refine ⟨_, rfl, p, _, rfl, hD4.new hq2, by decide, fun g5 H5 a5 b5 _ hD5 k5 => ?_⟩
    dsimp only at hq2 k5 ⊢
    rw [e12] at k5
    obtain ⟨v, hv, ev⟩ := at_pick (ns := [far - 1000000000000, 1000000000000, 0 - 1000000000000, g4 - 10, 0]) a5 b5
    have hv' : v = far - 1000000000000 ∨ v = 1000000000000 ∨ v = 0 - 1000000000000 ∨ v = g4 - 10 ∨ v = 0 := by simpa using hv
    exact ⟨_, _, _, _, rfl, rfl, SqL.of (k5 _ _ nq2 upd_same), ev, q v _ (by omega) (by omega) hD5 (((((k1.trans k2).trans k3).trans k4).trans (But.new hq2)).trans k5)⟩
def x_law_deed : { t : Stmt // top 24 = t } := ⟨_, by conv => { lhs; whnf }⟩
abbrev s_law_deed : Stmt := x_law_deed.1
theorem sc_law_deed : FnScope ["draws", "live", "row", "way", "number", "many"] ["draws", "live", "row"] (defScope s_law_deed) := ⟨rfl, rfl, rfl, by decide +kernel, rfl, by decide +kernel, by decide +kernel⟩
theorem fn_deed (B : Bl mg bls) (D : DefAt K mg "_law_deed" s_law_deed ["draws", "live", "row"]) (F_law_take : Fn P w K mg base 1 "_law_take" ["draws", "many"] spTake) (F_law_number : Fn P w K mg base 2 "_law_number" ["draws", "row"] (spNum37 K)) (MGrowing_put : MFn P w K mg base 2 C "put" ["self", "number"] (spPut C)) (MGrowing_take : MFn P w K mg base 2 C "take" ["self", "many"] (spTakeG C)) :
    Fn P w K mg base 3 "_law_deed" ["draws", "live", "row"] (spDeed C) := by
  refine D.fn sc_law_deed (fun vs H Q E h => ?_) (fun f cdv A outer s H vs Q E hr h => ?_)
  · obtain ⟨p, o, r, a, ns, rfl, _⟩ := h; rfl
  · obtain ⟨p, o, r, a, ns, rfl, hD, lv, ca, nop, nrp, nap, nar, hl, hb, q⟩ := h
    refine' ⟨_, ?tm, ?rd⟩
    (case tm =>
      (conv => { arg 2; whnf })
      refine' pss_cons ?s0 ?r0
      (case s0 =>
        exact (ps_set (i := 3) sc_law_deed.nd (by rfl) (by first | exact Or.inl rfl | exact Or.inr rfl) (pe_fn F_law_take hr (by rfl) (pa_cons (pv 0) (pa_cons pe_int pa_nil)))))
      (case r0 =>
        refine' pss_cons ?s0x ?r0x
        (case s0x =>
          refine' ps_if ?c0x ?a0x ?b0x
          (case c0x => exact (PW.pt (pw_and (pt_cmpR op_lt (pv 3) pe_int (nomark _)) (pw_and1 (pt_cmpR op_lt (pe_callB call_len_seq (by rfl) (B "len" (by decide +kernel)) (by decide +kernel) (pa_cons (pv 2) pa_nil)) pe_int (nomark _))))))
          (case a0x =>
            refine' pss_cons ?s0xi ?r0xi
            (case s0xi =>
              exact (ps_set (i := 4) sc_law_deed.nd (by rfl) (by first | exact Or.inl rfl | exact Or.inr rfl) (pe_fn F_law_number hr (by rfl) (pa_cons (pv 0) (pa_cons (pv 2) pa_nil)))))
            (case r0xi =>
              refine' pss_one ?s0xix
              (case s0xix =>
                exact (ps_ret (pe_ifExp (pt_cmpR op_isN (pe_methC (pv 1) MGrowing_put hr (pa_cons (pv 4) pa_nil)) pe_non (nomark _)) (pe_op op_cat (pv 2) (pe_lst (pa_cons (pv 4) pa_nil))) pe_non)))))
          (case b0x =>
            exact pss_nil))
        (case r0x =>
          refine' pss_cons ?s0xx ?r0xx
          (case s0xx =>
            exact (ps_set (i := 5) sc_law_deed.nd (by rfl) (by first | exact Or.inl rfl | exact Or.inr rfl) (pe_ix ix_list (pe_lst (pa_cons pe_int (pa_cons (pe_fn F_law_take hr (by rfl) (pa_cons (pv 0) (pa_cons pe_int pa_nil))) (pa_cons (pe_fn F_law_take hr (by rfl) (pa_cons (pv 0) (pa_cons pe_int pa_nil))) (pa_cons (pe_callB call_len_seq (by rfl) (B "len" (by decide +kernel)) (by decide +kernel) (pa_cons (pv 2) pa_nil)) pa_nil))))) (pe_ix ix_list (pe_lst (pa_cons pe_int (pa_cons pe_int (pa_cons pe_int (pa_cons pe_int (pa_cons pe_int (pa_cons pe_int (pa_cons pe_int (pa_cons pe_int pa_nil))))))))) (pe_fn F_law_take hr (by rfl) (pa_cons (pv 0) (pa_cons pe_int pa_nil))) (fun _ _ => rfl)) (fun _ _ => rfl))))
          (case r0xx =>
            refine' pss_cons ?s0xxx ?r0xxx
            (case s0xxx =>
              exact (ps_set (i := 5) sc_law_deed.nd (by rfl) (by first | exact Or.inl rfl | exact Or.inr rfl) (pe_ifExp (pt_cmpR op_ne (pv 5) (pe_callB call_len_seq (by rfl) (B "len" (by decide +kernel)) (by decide +kernel) (pa_cons (pv 2) pa_nil)) (nomark _)) (pe_op op_mod (pv 5) (pe_op op_add (pe_callB call_len_seq (by rfl) (B "len" (by decide +kernel)) (by decide +kernel) (pa_cons (pv 2) pa_nil)) pe_int)) (pv 5))))
            (case r0xxx =>
              refine' pss_one ?s0xxxx
              (case s0xxxx =>
                exact (ps_ret (pe_ifExp (pt_cmpR op_isN (pe_methC (pv 1) MGrowing_take hr (pa_cons (pv 5) pa_nil)) pe_non (nomark _)) (pe_slice sl_list (pv 2) po_none (po_some (pe_op op_sub (pe_callB call_len_seq (by rfl) (B "len" (by decide +kernel)) (by decide +kernel) (pa_cons (pv 2) pa_nil)) (pv 5)))) pe_non))))))))
    refine ⟨_, rfl, p, _, rfl, hD, by decide, fun way H1 a1 b1 _ hD1 k1 => ?_⟩
    dsimp only [gName]
    have ca1 := k1 _ _ nap ca
    refine seqJ (fun σ' H' => σ' = [some (.ref p), some (.ref o), some (.ref a), some (.int way), none, none] ∧ H' = H1) (fun fin => ?_) ?_
    · refine ⟨_, rfl, _, _, rfl, rfl, _, rfl, ?_⟩
      refine ite2 (fun _ => ?_) (fun _ => fin _ _ ⟨rfl, rfl⟩)
      refine ⟨_, rfl, a, _, rfl, .inl (SqL.of ca1), _, _, rfl, rfl, _, rfl, ?_⟩
      refine ite2 (fun z => ?_) (fun _ => fin _ _ ⟨rfl, rfl⟩)
      have z' : (((ns.map V.int).length : Nat) : Int) < 300 := of_decide_eq_true z
      rw [List.length_map] at z'
      refine ⟨_, rfl, _, rfl, p, a, ns, rfl, hD1, SqL.of ca1, nap, hl, fun n H2 n0 n1 hD2 k2 => ?_⟩
      dsimp only [gName]
      have k12 := k1.trans k2
      have lv2 := lv.but k12 nop nrp
      have ca2 := k2 _ _ nap ca1
      obtain ⟨dx, ho2, cr2⟩ := id lv2
      refine ⟨_, rfl, o, dx, _, rfl, ho2, rfl, _, rfl, o, r, ns, n, rfl, lv2, by omega, fun H3 lv3 k3 => ?_⟩
      refine ⟨rfl, _, rfl, ?_⟩
      have ca3 := k3 _ _ nar ca2
      refine ⟨_, rfl, _, rfl, (by show 1 ≤ sizeLine; decide), fun q1 hq1 => ?_⟩
      have s4 := Same.new (o := .lst [.int n]) hq1
      refine ⟨a, q1, _, _, rfl, rfl, s4 _ _ ca3, upd_same, by rw [List.length_map]; exact line1000 (by show ns.length + 1 ≤ 1000; omega), fun c hc => ?_⟩
      have s5 := s4.trans (Same.new (o := .lst (ns.map V.int ++ [.int n])) hc)
      have kS : ButS (fun b => b = p ∨ b = o ∨ b = r) H H3 := (k12.butS (.inl rfl)).trans (k3.butS (.inr (.inr rfl)))
      have fc : H c = none := by
        have h3 := (Same.new (o := HO.lst [.int n]) hq1).free hc
        cases e : H c with
        | none => rfl
        | some u =>
          exfalso
          by_cases z1 : c = p
          · exact (hD2.some (z1 ▸ free_of_but k3 (by rw [(show H3 r = _ from lv3.choose_spec.2)]; simp) h3))
          · by_cases z2 : c = r
            · rw [z2, lv3.choose_spec.2] at h3; cases h3
            · obtain ⟨y, hy⟩ := (k3.ap z2 (k12 _ _ z1 e)).some
              rw [hy] at h3; cases h3
      have ncr : c ≠ r := fun z => by
        have := lv.choose_spec.2
        rw [← z, fc] at this; cases this
      refine q c r _ (ns ++ [n]) fc (.inl rfl) ncr (lv3.same s5) (by rw [upd_same, List.map_append]; rfl) (by rw [List.length_append]; show ns.length + 1 ≤ 300; omega) (by rw [List.length_append]; exact Nat.le_refl _) (fun m hm => ?_) ?_ (kS.trans s5.butS)
      · rcases List.mem_append.mp hm with y | y
        · exact hb m y
        · rw [List.mem_singleton.mp y]; exact ⟨by omega, by omega⟩
      · refine Draws.same ?_ s5
        obtain ⟨ds, cd, r1⟩ := hD2
        exact ⟨ds, k3 _ _ nrp.symm cd, r1⟩
    rintro _ H1 ⟨rfl, rfl⟩
    -- take
    refine seqJ (fun σ' H' => ∃ m : Int, σ' = [some (.ref p), some (.ref o), some (.ref a), some (.int way), none, some (.int m)] ∧ 0 ≤ m ∧ (m ≤ 1000 ∨ m = ns.length) ∧ But p H H' ∧ Draws H' p) (fun fin => ?_) ?_
    · refine ⟨_, rfl, p, _, rfl, hD1, by decide, fun g2 H2 a2 b2 _ hD2 k2 => ?_⟩
      refine ⟨_, rfl, p, _, rfl, hD2, by decide, fun g3 H3 a3 b3 _ hD3 k3 => ?_⟩
      have k13 := (k1.trans k2).trans k3
      refine ⟨_, rfl, a, _, rfl, .inl (SqL.of (k13 _ _ nap ca)), (by show 4 ≤ sizeLine; decide), fun q1 hq1 => ?_⟩
      have nq1 := hD3.ne hq1
      refine ⟨(by show 8 ≤ sizeLine; decide), fun q2 hq2 => ?_⟩
      have hD4 := hD3.new (o := .lst [.int 1, .int g2, .int g3, .int ((ns.map V.int).length : Nat)]) hq1
      have nq2 := hD4.ne hq2
      refine ⟨_, rfl, p, _, rfl, hD4.new hq2, by decide, fun g5 H5 a5 b5 _ hD5 k5 => ?_⟩
      obtain ⟨v, hv, ev⟩ := at_pick (ns := [0, 0, 1, 1, 1, 2, 2, 3]) a5 b5
      have hv' : v = 0 ∨ v = 1 ∨ v = 2 ∨ v = 3 := by
        have : v = 0 ∨ v = 0 ∨ v = 1 ∨ v = 1 ∨ v = 1 ∨ v = 2 ∨ v = 2 ∨ v = 3 := by simpa using hv
        omega
      refine ⟨_, _, _, _, rfl, rfl, SqL.of (k5 _ _ nq2 upd_same), ev, ?_⟩
      obtain ⟨u, hu, eu⟩ := at_pick (ns := [1, g2, g3, ((ns.map V.int).length : Nat)]) (i := v) (by omega) (by show v < 4; omega)
      have hu' : u = 1 ∨ u = g2 ∨ u = g3 ∨ u = ((ns.map V.int).length : Nat) := by simpa using hu
      rw [List.length_map] at hu'
      refine ⟨_, _, _, _, rfl, rfl, SqL.of (k5 _ _ nq1 ((Same.new hq2) _ _ upd_same)), eu, ?_⟩
      exact fin _ _ ⟨u, rfl, by omega, by omega, ((k13.trans (But.new hq1)).trans (But.new hq2)).trans k5, hD5⟩
    clear hD1 k1 ca1
    rintro _ H1 ⟨m, rfl, m0, m1, k1, hD1⟩
    have ca1 := k1 _ _ nap ca
    refine seqJ (fun σ' H' => ∃ m : Int, σ' = [some (.ref p), some (.ref o), some (.ref a), some (.int way), none, some (.int m)] ∧ 0 ≤ m ∧ m ≤ ns.length ∧ H' = H1) (fun fin => ?_) ?_
    · refine ⟨_, rfl, _, rfl, a, _, rfl, .inl (SqL.of ca1), rfl, _, rfl, ?_⟩
      refine ite2 (fun z => ?_) (fun z => ?_)
      · refine ⟨_, rfl, _, rfl, a, _, rfl, .inl (SqL.of ca1), _, _, rfl, rfl, _, _, rfl, rfl, (by show (0 : Int) < ((ns.map V.int).length : Nat) + 1; omega), ?_⟩
        refine fin _ _ ⟨_, rfl, Int.emod_nonneg _ (by omega), ?_, rfl⟩
        have := Int.emod_lt_of_pos m (show (0 : Int) < ((ns.map V.int).length : Nat) + 1 by omega)
        rw [List.length_map] at this ⊢; omega
      · have e : m = ((ns.map V.int).length : Nat) := by simpa using z
        rw [List.length_map] at e
        exact ⟨_, rfl, fin _ _ ⟨m, rfl, m0, by omega, rfl⟩⟩
    clear m0 m1 m
    rintro _ H1 ⟨m, rfl, m0, m1, rfl⟩
    have lv1 := lv.but k1 nop nrp
    obtain ⟨dx, ho1, cr1⟩ := id lv1
    refine ⟨_, rfl, o, dx, _, rfl, ho1, rfl, _, rfl, o, r, ns, m, rfl, lv1, m0, m1, fun H3 r' fr' lv3 k3 => ?_⟩
    refine ⟨rfl, _, rfl, ?_⟩
    have nao : a ≠ o := fun z => by rw [z, ho1] at ca1; cases ca1
    have ca3 := k3 _ _ nao ca1
    have npo : p ≠ o := nop.symm
    have hD3 : Draws H3 p := by
      obtain ⟨ds, cd, r1⟩ := hD1
      exact ⟨ds, k3 _ _ npo cd, r1⟩
    have kS : ButS (fun b => b = p ∨ b = o ∨ b = r) H H3 := (k1.butS (.inl rfl)).trans (k3.butS (.inr (.inl rfl)))
    refine ⟨_, rfl, _, rfl, a, _, rfl, .inl (SqL.of ca3), _, rfl, _, _, rfl, rfl, _, rfl, a, _, rfl, SqL.of ca3, fun c hc => ?_⟩
    have fr'' : H r' = none := free_of_but k1 hD1.some fr'
    have fc : H c = none := by
      cases e : H c with
      | none => rfl
      | some u =>
        exfalso
        by_cases z1 : c = p
        · exact hD3.some (z1 ▸ hc)
        · by_cases z2 : c = o
          · rw [z2, lv3.choose_spec.1] at hc; cases hc
          · obtain ⟨y, hy⟩ := (k3.ap z2 (k1 _ _ z1 e)).some
            rw [hy] at hc; cases hc
    have ncr : c ≠ r' := fun z => by
      have := lv3.choose_spec.2
      rw [← z, hc] at this; cases this
    rw [cut_ints, List.length_map, cutI_to _ _ (by omega), show ((ns.length : Int) - m).toNat = ns.length - m.toNat by omega]
    have s5 := Same.new (o := .lst ((ns.take (ns.length - m.toNat)).map V.int)) hc
    exact q c r' _ (ns.take (ns.length - m.toNat)) fc (.inr fr'') ncr (lv3.same s5) upd_same (by rw [List.length_take]; omega) (by rw [List.length_take]; omega) (fun n hn => hb n (List.mem_of_mem_take hn)) (hD3.same s5) (kS.trans s5.butS)
def x_law_grown : { t : Stmt // top 25 = t } := ⟨_, by conv => { lhs; whnf }⟩
abbrev s_law_grown : Stmt := x_law_grown.1
theorem sc_law_grown : FnScope ["row", "live", "number"] ["row"] (defScope s_law_grown) := ⟨rfl, rfl, rfl, by decide +kernel, rfl, by decide +kernel, by decide +kernel⟩
theorem fn_grown (B : Bl mg bls) (D : DefAt K mg "_law_grown" s_law_grown ["row"]) (IGrowing : IFn P w K mg base 1 "Growing" C ["self"] (spGI C)) (MGrowing_put : MFn P w K mg base 2 C "put" ["self", "number"] (spPut C)) : Fn P w K mg base 3 "_law_grown" ["row"] (spGrown K C) := by
  refine D.fn sc_law_grown (fun vs H Q E h => ?_) (fun f cdv A outer s H vs Q E hr h => ?_)
  · obtain ⟨a, ns, rfl, _⟩ := h; rfl
  · obtain ⟨a, ns, rfl, hs, hl, q⟩ := h
    refine' ⟨_, ?tm, ?rd⟩
    (case tm =>
      (conv => { arg 2; whnf })
      refine' pss_cons ?s0 ?r0
      (case s0 =>
        exact (ps_set (i := 1) sc_law_grown.nd (by rfl) (by first | exact Or.inl rfl | exact Or.inr rfl) (pe_makeC0 IGrowing hr (by rfl))))
      (case r0 =>
        refine' pss_cons ?s0x ?r0x
        (case s0x =>
          refine' ps_for PassesOwn.never (by rfl) ?i0x ?g0x ?d0x
          (case i0x => exact (pi_list (pv 0)))
          (case g0x => exact (pg_name (i := 2) sc_law_grown.nd (by rfl) (by first | exact Or.inl rfl | exact Or.inr rfl)))
          (case d0x =>
            refine' pss_one ?s0xf
            (case s0xf =>
              exact (ps_expr (pe_methC (pv 1) MGrowing_put hr (pa_cons (pv 2) pa_nil))))))
        (case r0x =>
          refine' pss_one ?s0xx
          (case s0xx =>
            exact (ps_ret (pv 1))))))
    refine fun x dx nx ndx nex => ?_
    refine ⟨x, dx, rfl, upd_same, fun H1 r k1 fr lv => ⟨rfl, ?_⟩⟩
    have s1 : Same H H1 := Same.made' nx ndx k1
    have fr0 : H r = none := by
      have sl : Same H (upd (upd H dx (.own x)) x (.ins C dx [])) := (Same.new ndx).trans (Same.new (by rw [upd_ne nex.symm]; exact nx))
      exact sl.free fr
    dsimp only [gName]
    refine ⟨_, rfl, a, rfl, ⟨_, s1.seq hs⟩, for_list (K := K) (a := a) (xs := ns.map V.int) (fun i σ H' => ∃ v2 : Option V, σ = [some (.ref a), some (.ref x), v2] ∧ LiveAt C H' x r (ns.take i) ∧ Same H H') ⟨_, rfl, lv, s1⟩ (fun i σ H' _ ⟨_, _, _, z⟩ => z.seq hs) ?_ ?_⟩
    · rintro i v σ H2 hx ⟨v2, rfl, lv2, s2⟩
      obtain ⟨n, hn, rfl⟩ := get_ints hx
      obtain ⟨dx', ho, cr⟩ := id lv2
      dsimp only [gName]
      refine ⟨_, rfl, x, dx', _, rfl, ho, rfl, _, rfl, x, r, _, n, rfl, lv2, by rw [List.length_take]; omega, fun H3 lv3 k3 => ?_⟩
      exact ⟨_, rfl, by rw [take_snoc hn]; exact lv3, But.same s2 fr0 k3⟩
    · rintro σ H2 ⟨v2, rfl, lv2, s2⟩
      rw [List.length_map, List.take_length] at lv2
      exact ⟨_, rfl, q x r H2 nx fr0 s2 lv2⟩
end

end Law

set_option Elab.async false
set_option linter.all false
set_option maxRecDepth 100000
set_option maxHeartbeats 4000000
namespace Law
open PySem L2
/-- the row, the draws and the growing row apart -/
structure Apart (C : Addr) (H : Hp) (p a o r : Addr) (ns : List Int) : Prop where
  dr : Draws H p
  lv : LiveAt C H o r ns
  ca : H a = some (.lst (ns.map V.int))
  ap : a ≠ p
  rp : r ≠ p
  ar : a ≠ r
theorem Apart.op {C p a o r : Addr} {H : Hp} {ns : List Int} (h : Apart C H p a o r ns) : o ≠ p := fun z => by
  obtain ⟨ds, c, _⟩ := h.dr
  obtain ⟨dx, ho, _⟩ := h.lv
  rw [z, c] at ho; cases ho
theorem Apart.ao {C p a o r : Addr} {H : Hp} {ns : List Int} (h : Apart C H p a o r ns) : a ≠ o := fun z => by
  obtain ⟨dx, ho, _⟩ := h.lv
  have c := h.ca
  rw [z, ho] at c; cases c
theorem Apart.same {C p a o r : Addr} {H H' : Hp} {ns : List Int} (h : Apart C H p a o r ns) (s : Same H H') : Apart C H' p a o r ns := ⟨h.dr.same s, h.lv.same s, s _ _ h.ca, h.ap, h.rp, h.ar⟩
theorem Apart.draw {C p a o r : Addr} {H H' : Hp} {ns : List Int} (h : Apart C H p a o r ns) (k : But p H H') (d : Draws H' p) : Apart C H' p a o r ns := ⟨d, h.lv.but k h.op h.rp, k _ _ h.ap h.ca, h.ap, h.rp, h.ar⟩
theorem Draws.but {H H' : Hp} {p q : Addr} (h : Draws H p) (k : But q H H') (n : p ≠ q) : Draws H' p := by
  obtain ⟨ds, c, rest⟩ := h
  exact ⟨ds, k _ _ n c, rest⟩
theorem Draws.butS {S : Addr → Prop} {H H' : Hp} {p : Addr} (h : Draws H p) (k : ButS S H H') (n : ¬ S p) : Draws H' p := by
  obtain ⟨ds, c, rest⟩ := h
  exact ⟨ds, k _ _ n c, rest⟩
def spLaw (K : PySem.W.Frag) : Sp := fun vs H Q _ => ∃ (a : Addr) (ns : List Int), vs = [.ref a] ∧ SqL K H a (ns.map V.int) ∧ ns.length ≤ 63 ∧ ∀ H', Q (.bl true) H'

abbrev ansI (ns : List Int) : List Int := [gE ns - gLL ns, gLL ns, gE ns, sumSt ns maxL - sumSt ns minL, sumSt ns maxL, sumSt ns minL, (ns.length : Int)]
def AnsAt (H : Hp) (l m : Addr) (ns : List Int) : Prop := H l = some (.lst ((ansI ns).map V.int ++ [.ref m])) ∧ H m = some (.lst (ns.map V.int))
abbrev ansD (ns : List Int) : PyData := .list ((ansI ns).map PyData.int ++ [intsD ns])
theorem AnsAt.same {H H' : Hp} {l m : Addr} {ns : List Int} (h : AnsAt H l m ns) (s : Same H H') : AnsAt H' l m ns := ⟨s _ _ h.1, s _ _ h.2⟩
theorem AnsAt.dp {K : PySem.W.Frag} {H : Hp} {l m : Addr} {ns : List Int} (h : AnsAt H l m ns) : Dp K H (.ref l) (ansD ns) :=
  .lst (SqL.of h.1) (.cons (.int _) (.cons (.int _) (.cons (.int _) (.cons (.int _) (.cons (.int _) (.cons (.int _) (.cons (.int _) (.cons (dpInts' (SqL.of h.2)) .nil))))))))
theorem shapedAns (ns : List Int) : SeqAt.shaped (ansD ns) = true := by
  have h1 := canLayInts ns
  have h2 := depthInts ns
  unfold SeqAt.shaped
  simp only [PyData.canLay0, PyData.depth, PyData.canLayAll0, PyData.depthAll, List.map_cons, List.map_nil, List.cons_append, List.nil_append, h1, Bool.true_and, Bool.and_true]
  exact decide_eq_true (by omega)
theorem eqvAns (ns : List Int) : PyData.eqv (ansD ns) (ansD ns) = true := by
  have h := eqvInts ns ns
  rw [decide_eq_true rfl] at h
  simp only [PyData.eqv, PyData.eqvAll, List.map_cons, List.map_nil, List.cons_append, List.nil_append, beq_self_eq_true, Bool.true_and, Bool.and_true] at h ⊢
  exact h
def spAns (C : Addr) : Sp := fun vs H Q _ => ∃ (o r : Addr) (ns : List Int), vs = [.ref o] ∧ LiveAt C H o r ns ∧ ns.length ≤ 300 ∧ ∀ (l m : Addr) (H' : Hp), H l = none → H m = none → Same H H' → AnsAt H' l m ns → Q (.ref l) H'
def spBack (C : Addr) : Sp := fun vs H Q _ => ∃ (p o r a : Addr) (ns : List Int), vs = [.ref p, .ref o, .ref a] ∧ Apart C H p a o r ns ∧ ns.length ≤ 290 ∧ ∀ (H' : Hp) (r' : Addr), H r' = none → LiveAt C H' o r' ns → Draws H' p → ButS (fun b => b = p ∨ b = o) H H' → Q (.bl true) H'
def spOther : Sp := fun vs H Q _ => ∃ (p a : Addr) (ns : List Int), vs = [.ref p, .ref a] ∧ Draws H p ∧ H a = some (.lst (ns.map V.int)) ∧ a ≠ p ∧ ns.length ≤ 300 ∧ ∀ H', Draws H' p → But p H H' → Q (.bl true) H'
section
variable {P : Program} {w : World} {K : PySem.W.Frag} {mg : Str → Option Value} {base : Heap} {C : Addr}
def x_law_answers : { t : Stmt // top 26 = t } := ⟨_, by conv => { lhs; whnf }⟩
abbrev s_law_answers : Stmt := x_law_answers.1
theorem sc_law_answers : FnScope ["live", "some"] ["live"] (defScope s_law_answers) := ⟨rfl, rfl, rfl, by decide +kernel, rfl, by decide +kernel, by decide +kernel⟩
theorem fn_answers (B : Bl mg bls) (D : DefAt K mg "_law_answers" s_law_answers ["live"]) (MGrowing_leasts : MFn P w K mg base 4 C "leasts" ["self"] (spTold C fun ns => sumSt ns minL)) (MGrowing_greatests : MFn P w K mg base 5 C "greatests" ["self"] (spTold C fun ns => sumSt ns maxL)) (MGrowing_spreads : MFn P w K mg base 6 C "spreads" ["self"] (spTold C fun ns => sumSt ns maxL - sumSt ns minL))
    (MGrowing_last_leasts : MFn P w K mg base 3 C "last_leasts" ["self"] (spTold C gLL)) (MGrowing_last_greatests : MFn P w K mg base 3 C "last_greatests" ["self"] (spTold C gE)) (MGrowing_last_spreads : MFn P w K mg base 4 C "last_spreads" ["self"] (spTold C fun ns => gE ns - gLL ns)) (MGrowing_numbers : MFn P w K mg base 1 C "numbers" ["self"] (spNumbers C)) (MGrowing_many : MFn P w K mg base 1 C "many" ["self"] (spManyG C)) :
    Fn P w K mg base 7 "_law_answers" ["live"] (spAns C) := by
  refine D.fn sc_law_answers (fun vs H Q E h => ?_) (fun f cdv A outer s H vs Q E hr h => ?_)
  · obtain ⟨o, r, ns, rfl, _⟩ := h; rfl
  · obtain ⟨o, r, ns, rfl, lv, hl, q⟩ := h
    obtain ⟨dx, ho, cr⟩ := id lv
    refine' ⟨_, ?tm, ?rd⟩
    (case tm =>
      (conv => { arg 2; whnf })
      refine' pss_cons ?s0 ?r0
      (case s0 =>
        exact (ps_set (i := 1) sc_law_answers.nd (by rfl) (by first | exact Or.inl rfl | exact Or.inr rfl) (pe_lst (pa_cons (pe_methC0 (pv 0) MGrowing_last_spreads hr) (pa_cons (pe_methC0 (pv 0) MGrowing_last_leasts hr) (pa_cons (pe_methC0 (pv 0) MGrowing_last_greatests hr) (pa_cons (pe_methC0 (pv 0) MGrowing_spreads hr) pa_nil)))))))
      (case r0 =>
        refine' pss_one ?s0x
        (case s0x =>
          exact (ps_ret (pe_op op_cat (pv 1) (pe_lst (pa_cons (pe_methC0 (pv 0) MGrowing_greatests hr) (pa_cons (pe_methC0 (pv 0) MGrowing_leasts hr) (pa_cons (pe_methC0 (pv 0) MGrowing_many hr) (pa_cons (pe_methC0 (pv 0) MGrowing_numbers hr) pa_nil))))))))))
    refine ⟨_, rfl, o, dx, _, rfl, ho, rfl, o, r, ns, rfl, lv, hl, fun H1 s1 => ?_⟩
    refine ⟨_, rfl, o, dx, _, rfl, s1 _ _ ho, rfl, o, r, ns, rfl, lv.same s1, hl, fun H2 s2 => ?_⟩
    have k2 := s1.trans s2
    refine ⟨_, rfl, o, dx, _, rfl, k2 _ _ ho, rfl, o, r, ns, rfl, lv.same k2, hl, fun H3 s3 => ?_⟩
    have k3 := k2.trans s3
    refine ⟨_, rfl, o, dx, _, rfl, k3 _ _ ho, rfl, o, r, ns, rfl, lv.same k3, hl, fun H3' s3' => ?_⟩
    have k3' := k3.trans s3'
    refine ⟨(by show 4 ≤ sizeLine; decide), fun q1 hq1 => ?_⟩
    have s4 := Same.new (o := .lst [.int (gE ns - gLL ns), .int (gLL ns), .int (gE ns), .int (sumSt ns maxL - sumSt ns minL)]) hq1
    have c1 : upd H3' q1 (.lst [.int (gE ns - gLL ns), .int (gLL ns), .int (gE ns), .int (sumSt ns maxL - sumSt ns minL)]) q1 = some (.lst [.int (gE ns - gLL ns), .int (gLL ns), .int (gE ns), .int (sumSt ns maxL - sumSt ns minL)]) := upd_same
    have k4 := k3'.trans s4
    dsimp only [gName]
    generalize upd H3' q1 _ = H4 at s4 c1 k4 ⊢
    refine ⟨_, rfl, _, rfl, o, dx, _, rfl, k4 _ _ ho, rfl, o, r, ns, rfl, lv.same k4, hl, fun H5 s5 => ?_⟩
    have k5 := k4.trans s5
    refine ⟨_, rfl, o, dx, _, rfl, k5 _ _ ho, rfl, o, r, ns, rfl, lv.same k5, hl, fun H6 s6 => ?_⟩
    have k6 := k5.trans s6
    refine ⟨_, rfl, o, dx, _, rfl, k6 _ _ ho, rfl, o, r, ns, rfl, lv.same k6, ?_⟩
    refine ⟨_, rfl, o, dx, _, rfl, k6 _ _ ho, rfl, o, r, ns, rfl, lv.same k6, fun m H7 fm s7 cm => ?_⟩
    have k7 := k6.trans s7
    refine ⟨(by show 4 ≤ sizeLine; decide), fun q2 hq2 => ?_⟩
    have s8 := Same.new (o := .lst [.int (sumSt ns maxL), .int (sumSt ns minL), .int (ns.length : Int), .ref m]) hq2
    have s48 := (s5.trans (s6.trans s7)).trans s8
    refine ⟨q1, q2, _, _, rfl, rfl, s48 _ _ c1, upd_same, (by show 8 ≤ sizeLine; decide), fun q3 hq3 => ?_⟩
    have k8 := k7.trans s8
    exact q q3 m _ (k8.free hq3) (k6.free fm) (k8.trans (Same.new hq3)) ⟨upd_same, (s8.trans (Same.new hq3)) _ _ cm⟩
def x_law_there_and_back : { t : Stmt // top 27 = t } := ⟨_, by conv => { lhs; whnf }⟩
abbrev s_law_there_and_back : Stmt := x_law_there_and_back.1
theorem sc_law_there_and_back : FnScope ["draws", "live", "row", "kept", "many", "number", "k"] ["draws", "live", "row"] (defScope s_law_there_and_back) := ⟨rfl, rfl, rfl, by decide +kernel, rfl, by decide +kernel, by decide +kernel⟩
theorem fn_back (B : Bl mg bls) (D : DefAt K mg "_law_there_and_back" s_law_there_and_back ["draws", "live", "row"]) (F_law_answers : Fn P w K mg base 7 "_law_answers" ["live"] (spAns C)) (F_law_take : Fn P w K mg base 1 "_law_take" ["draws", "many"] spTake) (F_law_number : Fn P w K mg base 2 "_law_number" ["draws", "row"] (spNum37 K)) (MGrowing_put : MFn P w K mg base 2 C "put" ["self", "number"] (spPut C)) (MGrowing_take : MFn P w K mg base 2 C "take" ["self", "many"] (spTakeG C)) :
    Fn P w K mg base 8 "_law_there_and_back" ["draws", "live", "row"] (spBack C) := by
  refine D.fn sc_law_there_and_back (fun vs H Q E h => ?_) (fun f cdv A outer s H vs Q E hr h => ?_)
  · obtain ⟨p, o, r, a, ns, rfl, _⟩ := h; rfl
  · obtain ⟨p, o, r, a, ns, rfl, Ap, hl, q⟩ := h
    refine' ⟨_, ?tm, ?rd⟩
    (case tm =>
      (conv => { arg 2; whnf })
      refine' pss_cons ?s0 ?r0
      (case s0 =>
        exact (ps_set (i := 3) sc_law_there_and_back.nd (by rfl) (by first | exact Or.inl rfl | exact Or.inr rfl) (pe_fn F_law_answers hr (by rfl) (pa_cons (pv 1) pa_nil))))
      (case r0 =>
        refine' pss_cons ?s0x ?r0x
        (case s0x =>
          exact (ps_set (i := 4) sc_law_there_and_back.nd (by rfl) (by first | exact Or.inl rfl | exact Or.inr rfl) (pe_op op_mod (pe_fn F_law_take hr (by rfl) (pa_cons (pv 0) (pa_cons pe_int pa_nil))) (pe_op op_add (pe_callB call_len_seq (by rfl) (B "len" (by decide +kernel)) (by decide +kernel) (pa_cons (pv 2) pa_nil)) pe_int))))
        (case r0x =>
          refine' pss_cons ?s0xx ?r0xx
          (case s0xx =>
            exact (ps_expr (pe_methC (pv 1) MGrowing_take hr (pa_cons (pv 4) pa_nil))))
          (case r0xx =>
            refine' pss_cons ?s0xxx ?r0xxx
            (case s0xxx =>
              refine' ps_for PassesOwn.never (by rfl) ?i0xxx ?g0xxx ?d0xxx
              (case i0xxx => exact (pi_list (pe_slice sl_list (pv 2) (po_some (pe_op op_sub (pe_callB call_len_seq (by rfl) (B "len" (by decide +kernel)) (by decide +kernel) (pa_cons (pv 2) pa_nil)) (pv 4))) po_none)))
              (case g0xxx => exact (pg_name (i := 5) sc_law_there_and_back.nd (by rfl) (by first | exact Or.inl rfl | exact Or.inr rfl)))
              (case d0xxx =>
                refine' pss_one ?s0xxxf
                (case s0xxxf =>
                  exact (ps_expr (pe_methC (pv 1) MGrowing_put hr (pa_cons (pv 5) pa_nil))))))
            (case r0xxx =>
              refine' pss_cons ?s0xxxx ?r0xxxx
              (case s0xxxx =>
                refine' ps_for PassesOwn.never (by rfl) ?i0xxxx ?g0xxxx ?d0xxxx
                (case i0xxxx => exact (pi_range1 (by rfl) (B "range" (by decide +kernel)) (pa_cons pe_int pa_nil)))
                (case g0xxxx => exact (pg_name (i := 6) sc_law_there_and_back.nd (by rfl) (by first | exact Or.inl rfl | exact Or.inr rfl)))
                (case d0xxxx =>
                  refine' pss_one ?s0xxxxf
                  (case s0xxxxf =>
                    exact (ps_expr (pe_methC (pv 1) MGrowing_put hr (pa_cons (pe_fn F_law_number hr (by rfl) (pa_cons (pv 0) (pa_cons (pv 2) pa_nil))) pa_nil))))))
              (case r0xxxx =>
                refine' pss_cons ?s0xxxxx ?r0xxxxx
                (case s0xxxxx =>
                  exact (ps_expr (pe_methC (pv 1) MGrowing_take hr (pa_cons pe_int pa_nil))))
                (case r0xxxxx =>
                  refine' pss_cons ?s0xxxxxx ?r0xxxxxx
                  (case s0xxxxxx =>
                    exact (ps_expr (pe_methC (pv 1) MGrowing_take hr (pa_cons pe_int pa_nil))))
                  (case r0xxxxxx =>
                    refine' pss_cons ?s0xxxxxxx ?r0xxxxxxx
                    (case s0xxxxxxx =>
                      exact (ps_expr (pe_methC (pv 1) MGrowing_take hr (pa_cons pe_int pa_nil))))
                    (case r0xxxxxxx =>
                      refine' pss_one ?s0xxxxxxxx
                      (case s0xxxxxxxx =>
                        exact (ps_ret (pe_cmpR (op_eqD hr.units) (pe_fn F_law_answers hr (by rfl) (pa_cons (pv 1) pa_nil)) (pv 3) (nomark _)))))))))))))
    refine ⟨_, rfl, o, r, ns, rfl, Ap.lv, by omega, fun kl km H1 fkl fkm s1 an1 => ?_⟩
    dsimp only [gName]
    have A1 := Ap.same s1
    refine ⟨_, rfl, p, _, rfl, A1.dr, by decide, fun g H2 g0 g1 _ hD2 k2 => ?_⟩
    have A2 := A1.draw k2 hD2
    refine ⟨_, rfl, a, _, rfl, .inl (SqL.of A2.ca), _, _, rfl, rfl, _, _, rfl, rfl, (by show (0 : Int) < ((ns.map V.int).length : Nat) + 1; omega), ?_⟩
    dsimp only [gName]
    rw [List.length_map]
    have m0 : 0 ≤ g % ((ns.length : Int) + 1) := Int.emod_nonneg _ (by omega)
    have m1 : g % ((ns.length : Int) + 1) < (ns.length : Int) + 1 := Int.emod_lt_of_pos _ (by omega)
    generalize g % ((ns.length : Int) + 1) = m at m0 m1 ⊢
    have kS2 : ButS (fun b => b = p ∨ b = o) H H2 := s1.butS.trans (k2.butS (.inl rfl))
    have an2 : AnsAt H2 kl km ns := ⟨k2 _ _ (Ap.dr.ne fkl) an1.1, k2 _ _ (Ap.dr.ne fkm) an1.2⟩
    obtain ⟨dx2, ho2, cr2⟩ := id A2.lv
    have nko : kl ≠ o := fun z => by rw [z, Ap.lv.choose_spec.1] at fkl; cases fkl
    have nmo : km ≠ o := fun z => by rw [z, Ap.lv.choose_spec.1] at fkm; cases fkm
    -- take
    refine ⟨_, rfl, o, dx2, _, rfl, ho2, rfl, _, rfl, o, r, ns, m, rfl, A2.lv, m0, by omega, fun H3 r1 fr1 lv3 k3 => ?_⟩
    have kS3 := kS2.trans (k3.butS (.inr rfl))
    have fr1H : H r1 = none := by
      have := free_of_but k2 hD2.some fr1
      exact s1.free this
    have D3 := A2.dr.but k3 A2.op.symm
    have ca3 := k3 _ _ A2.ao A2.ca
    have an3 : AnsAt H3 kl km ns := ⟨k3 _ _ nko an2.1, k3 _ _ nmo an2.2⟩
    have nap := Ap.ap
    have nr1p : r1 ≠ p := fun z => A2.dr.some (z ▸ fr1)
    have nr1a : a ≠ r1 := fun z => by have := A2.ca; rw [z, fr1] at this; cases this
    have nr1k : kl ≠ r1 := fun z => by have := an2.1; rw [z, fr1] at this; cases this
    have nr1m : km ≠ r1 := fun z => by have := an2.2; rw [z, fr1] at this; cases this
    -- puts
    dsimp only
    refine seqJ (fun σ' H' => ∃ v5 : Option V, σ' = [some (.ref p), some (.ref o), some (.ref a), some (.ref kl), some (.int m), v5, none] ∧ LiveAt C H' o r1 ns ∧ Draws H' p ∧ H' a = some (.lst (ns.map V.int)) ∧ AnsAt H' kl km ns ∧ ButS (fun b => b = p ∨ b = o) H H') (fun fin => ?_) ?_
    · refine ⟨_, rfl, _, rfl, a, _, rfl, .inl (SqL.of ca3), _, rfl, _, _, rfl, rfl, _, rfl, a, _, rfl, SqL.of ca3, fun c hc => ?_⟩
      rw [cut_ints, List.length_map]
      have ecut : cutI ns (some ((ns.length : Int) - m)) none = ns.drop (ns.length - m.toNat) := by
        unfold cutI
        have e1 : HT.sIx ns.length 0 (some ((ns.length : Int) - m)) = ns.length - m.toNat := by
          rw [show (ns.length : Int) - m = ((ns.length - m.toNat : Nat) : Int) by omega, HT.sIx_nat]
          omega
        rw [e1]
        show List.take (ns.length - (ns.length - m.toNat)) (ns.drop (ns.length - m.toNat)) = _
        exact List.take_of_length_le (by rw [List.length_drop]; omega)
      rw [ecut]
      have s4 := Same.new (o := .lst ((ns.drop (ns.length - m.toNat)).map V.int)) hc
      have cc : upd H3 c (.lst ((ns.drop (ns.length - m.toNat)).map V.int)) c = some (.lst ((ns.drop (ns.length - m.toNat)).map V.int)) := upd_same
      have ncr : c ≠ r1 := fun z => by rw [z, lv3.choose_spec.2] at hc; cases hc
      generalize upd H3 c (.lst ((ns.drop (ns.length - m.toNat)).map V.int)) = H4 at s4 cc ⊢
      refine ⟨c, rfl, ⟨_, SqL.of cc⟩, for_list (K := K) (a := c) (xs := (ns.drop (ns.length - m.toNat)).map V.int) (fun i σ H' => ∃ v5 : Option V, σ = [some (.ref p), some (.ref o), some (.ref a), some (.ref kl), some (.int m), v5, none] ∧ LiveAt C H' o r1 (ns.take (ns.length - m.toNat) ++ (ns.drop (ns.length - m.toNat)).take i) ∧ But r1 H4 H') ⟨_, rfl, by rw [List.take_zero, List.append_nil]; exact lv3.same s4, But.refl _ _⟩ (fun i σ H' _ ⟨_, _, _, z⟩ => SqL.of (z _ _ ncr cc)) ?_ ?_⟩
      · rintro i x σ H5 hx ⟨v5, rfl, lv5, k5⟩
        obtain ⟨n, hn, rfl⟩ := get_ints hx
        obtain ⟨dx5, ho5, cr5⟩ := id lv5
        dsimp only [gName]
        refine ⟨_, rfl, o, dx5, _, rfl, ho5, rfl, _, rfl, o, r1, _, n, rfl, lv5, ?_, fun H6 lv6 k6 => ?_⟩
        · rw [List.length_append, List.length_take, List.length_take, List.length_drop]; omega
        · exact ⟨_, rfl, by rw [take_snoc hn, ← List.append_assoc]; exact lv6, k5.trans k6⟩
      · rintro σ H5 ⟨v5, rfl, lv5, k5⟩
        rw [List.length_map, List.take_length, List.take_append_drop] at lv5
        exact fin _ _ ⟨v5, rfl, lv5, (D3.same s4).but k5 nr1p.symm, k5 _ _ nr1a (s4 _ _ ca3), ⟨k5 _ _ nr1k (s4 _ _ an3.1), k5 _ _ nr1m (s4 _ _ an3.2)⟩, (kS3.trans s4.butS).thenNew k5 fr1H⟩
    clear ca3 an3 D3 kS3
    rintro _ H4 ⟨v5, rfl, lv4, D4, ca4, an4, kS4⟩
    refine seqJ (fun σ' H' => ∃ (x y z : Int) (v6 : Option V), σ' = [some (.ref p), some (.ref o), some (.ref a), some (.ref kl), some (.int m), v5, v6] ∧ LiveAt C H' o r1 (ns ++ [x, y, z]) ∧ Draws H' p ∧ AnsAt H' kl km ns ∧ ButS (fun b => b = p ∨ b = o) H H') (fun fin => ?_) ?_
    · refine ⟨3, rfl, by decide, by decide, for_range (lo := 0) (n := 3) (fun i σ H' => ∃ (xs : List Int) (v6 : Option V), σ = [some (.ref p), some (.ref o), some (.ref a), some (.ref kl), some (.int m), v5, v6] ∧ xs.length = i ∧ LiveAt C H' o r1 (ns ++ xs) ∧ Draws H' p ∧ H' a = some (.lst (ns.map V.int)) ∧ AnsAt H' kl km ns ∧ ButS (fun b => b = p ∨ b = o) H H') ⟨[], _, rfl, rfl, by rw [List.append_nil]; exact lv4, D4, ca4, an4, kS4⟩ ?_ ?_⟩
      · rintro i σ H5 hi ⟨xs, v6, rfl, xl, lv5, D5, ca5, an5, kS5⟩
        obtain ⟨dx5, ho5, cr5⟩ := id lv5
        refine ⟨_, rfl, o, dx5, _, rfl, ho5, rfl, _, rfl, _, rfl, p, a, ns, rfl, D5, SqL.of ca5, nap, by omega, fun n H6 n0 n1 D6 k6 => ?_⟩
        have nop : o ≠ p := Ap.op
        refine ⟨o, r1, _, n, rfl, lv5.but k6 nop nr1p, by rw [List.length_append]; omega, fun H7 lv7 k7 => ?_⟩
        refine ⟨xs ++ [n], _, rfl, by rw [List.length_append, xl]; rfl, by rw [← List.append_assoc]; exact lv7, D6.but k7 nr1p.symm, k7 _ _ nr1a (k6 _ _ nap ca5), ⟨k7 _ _ nr1k (k6 _ _ (Ap.dr.ne fkl) an5.1), k7 _ _ nr1m (k6 _ _ (Ap.dr.ne fkm) an5.2)⟩, (kS5.trans (k6.butS (.inl rfl))).thenNew k7 fr1H⟩
      · rintro σ H5 ⟨xs, v6, rfl, xl, lv5, D5, ca5, an5, kS5⟩
        match xs, xl with
        | [x, y, z], _ => exact fin _ _ ⟨x, y, z, v6, rfl, lv5, D5, an5, kS5⟩
    clear lv4 D4 ca4 an4 kS4
    rintro _ H5 ⟨x, y, z, v6, rfl, lv5, D5, an5, kS5⟩
    have nop : o ≠ p := Ap.op
    have hl3 : (ns ++ [x, y, z]).length = ns.length + 3 := by rw [List.length_append]; rfl
    obtain ⟨dx5, ho5, cr5⟩ := id lv5
    refine ⟨_, rfl, o, dx5, _, rfl, ho5, rfl, o, r1, _, 2, rfl, lv5, by decide, by rw [hl3]; omega, fun H6 r2 fr2 lv6 k6 => ?_⟩
    have e6 : (ns ++ [x, y, z]).take ((ns ++ [x, y, z]).length - Int.toNat 2) = ns ++ [x] := by
      rw [hl3, show ns.length + 3 - Int.toNat 2 = ns.length + 1 by simp, List.take_append, List.take_of_length_le (by omega)]
      simp
    rw [e6] at lv6
    obtain ⟨dx6, ho6, cr6⟩ := id lv6
    have hl1 : (ns ++ [x]).length = ns.length + 1 := by rw [List.length_append]; rfl
    refine ⟨_, rfl, o, dx6, _, rfl, ho6, rfl, o, r2, _, 1, rfl, lv6, by decide, by rw [hl1]; omega, fun H7 r3 fr3 lv7 k7 => ?_⟩
    have e7 : (ns ++ [x]).take ((ns ++ [x]).length - Int.toNat 1) = ns := by
      rw [hl1, show ns.length + 1 - Int.toNat 1 = ns.length by simp, List.take_append_of_le_length (Nat.le_refl _), List.take_length]
    rw [e7] at lv7
    obtain ⟨dx7, ho7, cr7⟩ := id lv7
    refine ⟨_, rfl, o, dx7, _, rfl, ho7, rfl, o, r3, _, 0, rfl, lv7, by decide, by omega, fun H8 r4 fr4 lv8 k8 => ?_⟩
    have e8 : ns.take (ns.length - Int.toNat 0) = ns := by simp
    rw [e8] at lv8
    have k58 := (k6.trans k7).trans k8
    have kS8 := kS5.trans (k58.butS (.inr rfl))
    have D8 := D5.but k58 nop.symm
    have an8 : AnsAt H8 kl km ns := ⟨k58 _ _ nko an5.1, k58 _ _ nmo an5.2⟩
    have fr4H : H r4 = none := by
      cases e : H r4 with
      | none => rfl
      | some u =>
        exfalso
        by_cases z1 : r4 = p ∨ r4 = o
        · rcases z1 with z1 | z1
          · exact ((D5.but (k6.trans k7) nop.symm).some (z1 ▸ fr4))
          · rw [z1, ho7] at fr4; cases fr4
        · obtain ⟨y', hy⟩ := ((kS5.trans ((k6.trans k7).butS (.inr rfl))) _ _ z1 e).some
          rw [hy] at fr4; cases fr4
    refine ⟨_, rfl, o, r4, ns, rfl, lv8, by omega, fun kl2 km2 H9 fkl2 fkm2 s9 an9 => ?_⟩
    refine ⟨_, rfl, ansD ns, ansD ns, an9.dp, (an8.same s9).dp, shapedAns ns, shapedAns ns, ?_⟩
    rw [eqvAns]
    exact q H9 r4 fr4H (lv8.same s9) (D8.same s9) (kS8.trans s9.butS)
def x_law_otherwise : { t : Stmt // top 28 = t } := ⟨_, by conv => { lhs; whnf }⟩
abbrev s_law_otherwise : Stmt := x_law_otherwise.1
theorem sc_law_otherwise : FnScope ["draws", "row", "told", "turned", "number", "size", "small", "more", "one", "other", "stretches"] ["draws", "row"] (defScope s_law_otherwise) := ⟨rfl, rfl, rfl, by decide +kernel, rfl, by decide +kernel, by decide +kernel⟩
theorem fn_otherwise (B : Bl mg bls) (D : DefAt K mg "_law_otherwise" s_law_otherwise ["draws", "row"]) (F_law_answers : Fn P w K mg base 7 "_law_answers" ["live"] (spAns C)) (F_law_take : Fn P w K mg base 1 "_law_take" ["draws", "many"] spTake) (F_law_grown : Fn P w K mg base 3 "_law_grown" ["row"] (spGrown K C)) :
    Fn P w K mg base 8 "_law_otherwise" ["draws", "row"] spOther := by
  refine D.fn sc_law_otherwise (fun vs H Q E h => ?_) (fun f cdv A outer s H vs Q E hr h => ?_)
  · obtain ⟨p, a, ns, rfl, _⟩ := h; rfl
  · obtain ⟨p, a, ns, rfl, hD, ca, nap, hl, q⟩ := h
    refine' ⟨_, ?tm, ?rd⟩
    (case tm =>
      (conv => { arg 2; whnf })
      refine' pss_cons ?s0 ?r0
      (case s0 =>
        exact (ps_set (i := 2) sc_law_otherwise.nd (by rfl) (by first | exact Or.inl rfl | exact Or.inr rfl) (pe_fn F_law_answers hr (by rfl) (pa_cons (pe_fn F_law_grown hr (by rfl) (pa_cons (pv 1) pa_nil)) pa_nil))))
      (case r0 =>
        refine' pss_cons ?s0x ?r0x
        (case s0x =>
          exact (ps_set (i := 3) sc_law_otherwise.nd (by rfl) (by first | exact Or.inl rfl | exact Or.inr rfl) (pe_fn F_law_answers hr (by rfl) (pa_cons (pe_fn F_law_grown hr (by rfl) (pa_cons (pe_lc (own := [("number", 4)]) (g := (gName 4)) (by rfl) sc_law_otherwise.nd (pi_list (pv 1)) (blkOk_by (own := [("number", 4)]) (N := ["draws", "row", "told", "turned", "number", "size", "small", "more", "one", "other", "stretches"]) (sc := defScope s_law_otherwise) (by decide +kernel)) (fun _ _ _ _ _ => (pg_name (i := 4) sc_law_otherwise.nd (by rfl) (by first | exact Or.inl rfl | exact Or.inr rfl))) (fun _ _ _ _ _ => pts_nil) (fun _ _ _ _ _ => (pe_op op_sub pe_int (pv 4)))) pa_nil)) pa_nil))))
        (case r0x =>
          refine' pss_cons ?s0xx ?r0xx
          (case s0xx =>
            refine' ps_if ?c0xx ?a0xx ?b0xx
            (case c0xx => exact (PW.pt (pw_or (pt_cmpR (op_neLI hr.units) (pe_slice sl_list (pv 3) (po_some pe_int) (po_some pe_int)) (pe_lst (pa_cons (pe_op op_sub pe_int (pe_ix ix_list (pv 2) pe_int (fun _ _ => rfl))) (pa_cons (pe_op op_sub pe_int (pe_ix ix_list (pv 2) pe_int (fun _ _ => rfl))) pa_nil))) (nomark _)) (pw_or (pt_cmpR op_ne (pe_ix ix_list (pv 3) pe_int (fun _ _ => rfl)) (pe_ix ix_list (pv 2) pe_int (fun _ _ => rfl)) (nomark _)) (pw_or1 (pt_cmpR op_ne (pe_ix ix_list (pv 3) pe_int (fun _ _ => rfl)) (pe_ix ix_list (pv 2) pe_int (fun _ _ => rfl)) (nomark _)))))))
            (case a0xx =>
              refine' pss_one ?s0xxi
              (case s0xxi =>
                exact (ps_ret pe_bl)))
            (case b0xx =>
              exact pss_nil))
          (case r0xx =>
            refine' pss_cons ?s0xxx ?r0xxx
            (case s0xxx =>
              exact (ps_set (i := 5) sc_law_otherwise.nd (by rfl) (by first | exact Or.inl rfl | exact Or.inr rfl) (pe_callB call_len_seq (by rfl) (B "len" (by decide +kernel)) (by decide +kernel) (pa_cons (pv 1) pa_nil))))
            (case r0xxx =>
              refine' pss_cons ?s0xxxx ?r0xxxx
              (case s0xxxx =>
                exact (ps_setLc (i := 6) (own := [("number", 4)]) (g := (gName 4)) (by rfl) sc_law_otherwise.nd (by rfl) (by rfl) (sw_true (by rfl) (by rfl) (by rfl) (by decide +kernel)) (pi_list (pv 1)) (blkOk_by (own := [("number", 4)]) (N := ["draws", "row", "told", "turned", "number", "size", "small", "more", "one", "other", "stretches"]) (sc := defScope s_law_otherwise) (by decide +kernel)) (fun _ _ _ _ _ => (pg_name (i := 4) sc_law_otherwise.nd (by rfl) (by first | exact Or.inl rfl | exact Or.inr rfl))) (fun _ _ _ _ _ => pts_nil) (fun _ _ _ _ _ => (pe_op op_fdiv (pv 4) pe_int))))
              (case r0xxxx =>
                refine' pss_cons ?s0xxxxx ?r0xxxxx
                (case s0xxxxx =>
                  exact (ps_set (i := 7) sc_law_otherwise.nd (by rfl) (by first | exact Or.inl rfl | exact Or.inr rfl) (pe_fn F_law_take hr (by rfl) (pa_cons (pv 0) (pa_cons pe_int pa_nil)))))
                (case r0xxxxx =>
                  refine' pss_cons ?s0xxxxxx ?r0xxxxxx
                  (case s0xxxxxx =>
                    exact (ps_set (i := 8) sc_law_otherwise.nd (by rfl) (by first | exact Or.inl rfl | exact Or.inr rfl) (pe_fn F_law_answers hr (by rfl) (pa_cons (pe_fn F_law_grown hr (by rfl) (pa_cons (pv 6) pa_nil)) pa_nil))))
                  (case r0xxxxxx =>
                    refine' pss_cons ?s0xxxxxxx ?r0xxxxxxx
                    (case s0xxxxxxx =>
                      exact (ps_set (i := 9) sc_law_otherwise.nd (by rfl) (by first | exact Or.inl rfl | exact Or.inr rfl) (pe_fn F_law_answers hr (by rfl) (pa_cons (pe_fn F_law_grown hr (by rfl) (pa_cons (pe_lc (own := [("number", 4)]) (g := (gName 4)) (by rfl) sc_law_otherwise.nd (pi_list (pv 6)) (blkOk_by (own := [("number", 4)]) (N := ["draws", "row", "told", "turned", "number", "size", "small", "more", "one", "other", "stretches"]) (sc := defScope s_law_otherwise) (by decide +kernel)) (fun _ _ _ _ _ => (pg_name (i := 4) sc_law_otherwise.nd (by rfl) (by first | exact Or.inl rfl | exact Or.inr rfl))) (fun _ _ _ _ _ => pts_nil) (fun _ _ _ _ _ => (pe_op op_add (pv 4) (pv 7)))) pa_nil)) pa_nil))))
                    (case r0xxxxxxx =>
                      refine' pss_cons ?s0xxxxxxxx ?r0xxxxxxxx
                      (case s0xxxxxxxx =>
                        exact (ps_set (i := 10) sc_law_otherwise.nd (by rfl) (by first | exact Or.inl rfl | exact Or.inr rfl) (pe_op op_fdiv (pe_op op_mul (pv 5) (pe_op op_add (pv 5) pe_int)) pe_int)))
                      (case r0xxxxxxxx =>
                        refine' pss_one ?s0xxxxxxxxx
                        (case s0xxxxxxxxx =>
                          exact (ps_ret (pe_and (pe_cmpR (op_eqD hr.units) (pe_slice sl_list (pv 9) (po_some pe_int) (po_some pe_int)) (pe_lst (pa_cons (pe_op op_add (pe_ix ix_list (pv 8) pe_int (fun _ _ => rfl)) (pe_op op_mul (pv 7) (pv 10))) (pa_cons (pe_op op_add (pe_ix ix_list (pv 8) pe_int (fun _ _ => rfl)) (pe_op op_mul (pv 7) (pv 10))) pa_nil))) (nomark _)) (pe_one (pe_cmpR op_eq (pe_ix ix_list (pv 9) pe_int (fun _ _ => rfl)) (pe_op op_add (pe_ix ix_list (pv 8) pe_int (fun _ _ => rfl)) (pe_op op_mul (pv 7) (pv 5))) (nomark _))))))))))))))))
    refine ⟨_, rfl, a, ns, rfl, SqL.of ca, hl, fun o1 r1 H1 fo1 fr1 s1 lv1 => ⟨o1, r1, ns, rfl, lv1, hl, fun t tm H2 ft ftm s2 an2 => ?_⟩⟩
    dsimp only [gName]
    have k2 := s1.trans s2
    refine ⟨_, rfl, a, rfl, ⟨_, SqL.of (k2 _ _ ca)⟩, fun D1 hD1 => lc_mapI (f := fun n => 0 - n) (SqL.of (k2 _ _ ca)) hD1 (by omega) (fun v => rfl) (fun n H' R r => ⟨_, rfl, _, _, rfl, rfl, r⟩) ?_⟩
    have s3 := Same.new (o := .lst ((ns.map fun n => 0 - n).map V.int)) hD1
    refine ⟨D1, ns.map fun n => 0 - n, rfl, SqL.of upd_same, by rw [List.length_map]; exact hl, fun o2 r2 H4 fo2 fr2 s4 lv4 => ⟨o2, r2, _, rfl, lv4, by rw [List.length_map]; exact hl, fun u um H5 fu fum s5 an5 => ?_⟩⟩
    dsimp only [gName]
    have s25 := s3.trans (s4.trans s5)
    have an25 := an2.same s25
    have k5 := k2.trans s25
    clear s3 s4 s5
    refine seqJ (fun σ' H' => σ' = [some (.ref p), some (.ref a), some (.ref t), some (.ref u), none, none, none, none, none, none, none] ∧ Same H5 H') (fun fin => ?_) ?_
    · refine ⟨_, rfl, _, rfl, _, rfl, u, _, rfl, SqL.of an5.1, fun c hc => ?_⟩
      have ecut : cutV ((ansI (ns.map fun n => 0 - n)).map V.int ++ [.ref um]) (some 4) (some 6) = ([sumSt (ns.map fun n => 0 - n) maxL, sumSt (ns.map fun n => 0 - n) minL] : List Int).map V.int := rfl
      rw [ecut]
      have s6 := Same.new (o := .lst (([sumSt (ns.map fun n => 0 - n) maxL, sumSt (ns.map fun n => 0 - n) minL] : List Int).map V.int)) hc
      refine ⟨_, rfl, t, _, _, _, rfl, rfl, SqL.of (s6 _ _ an25.1), rfl, _, _, rfl, rfl, _, rfl, t, _, _, _, rfl, rfl, SqL.of (s6 _ _ an25.1), rfl, _, _, rfl, rfl, (by show 2 ≤ sizeLine; decide), fun c2 hc2 => ?_⟩
      have s7 := Same.new (o := .lst [.int (0 - sumSt ns minL), .int (0 - sumSt ns maxL)]) hc2
      have s67 := s6.trans s7
      refine ⟨c, c2, [sumSt (ns.map fun n => 0 - n) maxL, sumSt (ns.map fun n => 0 - n) minL], [0 - sumSt ns minL, 0 - sumSt ns maxL], rfl, rfl, SqL.of (s7 _ _ upd_same), SqL.of upd_same, _, rfl, ?_⟩
      refine ifNot (by rw [sum_turned_great, sum_turned_least]) ?_
      refine ⟨_, rfl, u, _, _, _, rfl, rfl, SqL.of (s67 _ _ an5.1), rfl, _, rfl, t, _, _, _, rfl, rfl, SqL.of (s67 _ _ an25.1), rfl, rfl, _, rfl, ifNe (congrArg V.int ?_) ?_⟩
      · rw [sum_turned_great, sum_turned_least]; omega
      refine ⟨_, rfl, u, _, _, _, rfl, rfl, SqL.of (s67 _ _ an5.1), rfl, _, rfl, t, _, _, _, rfl, rfl, SqL.of (s67 _ _ an25.1), rfl, rfl, _, rfl, ifNe (congrArg V.int ?_) ?_⟩
      · have e1 := last_turned_least ns
        have e2 := last_turned_great ns
        rw [lastE_least, lastE_great] at e1 e2
        show gE (ns.map fun n => 0 - n) - gLL (ns.map fun n => 0 - n) = _
        unfold gLL
        rw [e1, e2]; omega
      exact fin _ _ ⟨rfl, s67⟩
    rintro _ H6 ⟨rfl, s6⟩
    have k6 := k5.trans s6
    clear s6
    refine ⟨_, rfl, a, _, rfl, .inl (SqL.of (k6 _ _ ca)), ?_⟩
    dsimp only [gName]
    rw [List.length_map]
    refine ⟨_, rfl, a, rfl, ⟨_, SqL.of (k6 _ _ ca)⟩, fun D2 hD2 => lc_mapI (f := fun n => n / 2) (SqL.of (k6 _ _ ca)) hD2 (by omega) (fun v => rfl) (fun n H' R r => ⟨_, rfl, _, _, rfl, rfl, ⟨by decide, by decide⟩, r⟩) ?_⟩
    generalize hms : (ns.map fun n => n / 2) = ms
    have ml : ms.length = ns.length := by rw [← hms, List.length_map]
    have s7 := Same.new (o := .lst (ms.map V.int)) hD2
    have cD2 : upd H6 D2 (.lst (ms.map V.int)) D2 = some (.lst (ms.map V.int)) := upd_same
    have k7 := k6.trans s7
    generalize upd H6 D2 (.lst (ms.map V.int)) = H7 at s7 cD2 k7 ⊢
    dsimp only [gName]
    refine ⟨_, rfl, p, _, rfl, hD.same k7, by decide, fun more H8 r0 r1' r2' D8 k8 => ?_⟩
    dsimp only [gName]
    have nD2 : D2 ≠ p := (hD.same k6).ne hD2
    have cD8 := k8 _ _ nD2 cD2
    refine ⟨_, rfl, D2, ms, rfl, SqL.of cD8, by omega, fun o3 r3 H9 fo3 fr3 s9 lv9 => ⟨o3, r3, ms, rfl, lv9, by omega, fun x xm H10 fx fxm s10 an10 => ?_⟩⟩
    dsimp only [gName]
    have s910 := s9.trans s10
    have cD10 := s910 _ _ cD8
    refine ⟨_, rfl, D2, rfl, ⟨_, SqL.of cD10⟩, fun D3 hD3 => lc_mapI (f := fun n => n + more) (SqL.of cD10) hD3 (by omega) (fun v => rfl) (fun n H' R r => ⟨_, rfl, _, rfl, _, _, rfl, rfl, r⟩) ?_⟩
    have s11 := Same.new (o := .lst ((ms.map fun n => n + more).map V.int)) hD3
    refine ⟨D3, ms.map fun n => n + more, rfl, SqL.of upd_same, by rw [List.length_map]; omega, fun o4 r4 H12 fo4 fr4 s12 lv12 => ⟨o4, r4, _, rfl, lv12, by rw [List.length_map]; omega, fun y ym H13 fy fym s13 an13 => ?_⟩⟩
    dsimp only [gName]
    have s1013 := s11.trans (s12.trans s13)
    have anx := an10.same s1013
    refine ⟨_, rfl, _, rfl, _, _, rfl, rfl, _, _, rfl, rfl, .inl ⟨by omega, by omega⟩, _, _, rfl, rfl, ⟨by decide, by decide⟩, ?_⟩
    dsimp only [gName]
    have hst : 0 ≤ (ns.length : Int) * ((ns.length : Int) + 1) / 2 ∧ (ns.length : Int) * ((ns.length : Int) + 1) / 2 < 100000 := by
      have h1 : 0 ≤ (ns.length : Int) * ((ns.length : Int) + 1) := Int.mul_nonneg (by omega) (by omega)
      have h2 : (ns.length : Int) * ((ns.length : Int) + 1) ≤ 300 * 301 := Int.mul_le_mul (by omega) (by omega) (by omega) (by decide)
      omega
    have em : ((ms.length : Int) * ((ms.length : Int) + 1) / 2) = (ns.length : Int) * ((ns.length : Int) + 1) / 2 := by rw [ml]
    generalize hstr : (ns.length : Int) * ((ns.length : Int) + 1) / 2 = str at hst em ⊢
    refine ⟨_, rfl, _, rfl, _, rfl, y, _, rfl, SqL.of an13.1, fun c hc => ?_⟩
    have ecut : cutV ((ansI (ms.map fun n => n + more)).map V.int ++ [.ref ym]) (some 4) (some 6) = ([sumSt (ms.map fun n => n + more) maxL, sumSt (ms.map fun n => n + more) minL] : List Int).map V.int := rfl
    rw [ecut]
    have s14 := Same.new (o := .lst (([sumSt (ms.map fun n => n + more) maxL, sumSt (ms.map fun n => n + more) minL] : List Int).map V.int)) hc
    refine ⟨_, rfl, x, _, _, _, rfl, rfl, SqL.of (s14 _ _ anx.1), rfl, _, rfl, _, rfl, _, _, rfl, rfl, .inl ⟨by omega, by omega⟩, _, _, rfl, rfl, ?_⟩
    refine ⟨_, rfl, x, _, _, _, rfl, rfl, SqL.of (s14 _ _ anx.1), rfl, _, rfl, _, rfl, _, _, rfl, rfl, .inl ⟨by omega, by omega⟩, _, _, rfl, rfl, (by show 2 ≤ sizeLine; decide), fun c2 hc2 => ?_⟩
    have s15 := Same.new (o := .lst [.int (sumSt ms maxL + more * str), .int (sumSt ms minL + more * str)]) hc2
    have s1415 := s14.trans s15
    refine ⟨intsD [sumSt (ms.map fun n => n + more) maxL, sumSt (ms.map fun n => n + more) minL], intsD [sumSt ms maxL + more * str, sumSt ms minL + more * str], dpInts' (SqL.of (s15 _ _ upd_same)), dpInts' (SqL.of upd_same), shapedInts _, shapedInts _, _, rfl, ?_⟩
    rw [eqvInts]
    refine ifT (by rw [sum_more_great, sum_more_least, em]) ?_
    refine ⟨_, rfl, y, _, _, _, rfl, rfl, SqL.of (s1415 _ _ an13.1), rfl, _, rfl, x, _, _, _, rfl, rfl, SqL.of (s1415 _ _ anx.1), rfl, _, rfl, _, rfl, _, _, rfl, rfl, .inl ⟨by omega, by omega⟩, _, _, rfl, rfl, rfl, ?_⟩
    have e3 := last_more_least ms more
    rw [lastE_least, lastE_least, show ((ms.length : Nat) : Int) = ((ns.length : Nat) : Int) by omega] at e3
    have e4 : decide (V.int (gLL (ms.map fun n => n + more)) = V.int (gLL ms + more * (ns.length : Int))) = true := decide_eq_true (congrArg V.int e3)
    show Q (.bl (decide (V.int (gLL (ms.map fun n => n + more)) = V.int (gLL ms + more * (ns.length : Int))))) _
    rw [e4]
    have sE := (s910.trans s1013).trans s1415
    exact q _ (D8.same sE) ((k7.but.trans k8).trans sE.but)
end

end Law

set_option Elab.async false
set_option linter.all false
set_option maxRecDepth 100000
set_option maxHeartbeats 4000000
namespace Law
open PySem L2
/-- the growing row, the draws, the row, and what stays beside them -/
structure St52 (C : Addr) (Z H : Hp) (p a o r : Addr) (ns : List Int) : Prop where
  ap : Apart C H p a o r ns
  z : Same Z H
  zp : Z p = none
  zo : Z o = none
  zr : Z r = none
theorem St52.same {C p a o r : Addr} {Z H H' : Hp} {ns : List Int} (h : St52 C Z H p a o r ns) (s : Same H H') : St52 C Z H' p a o r ns := ⟨h.ap.same s, h.z.trans s, h.zp, h.zo, h.zr⟩
section
variable {P : Program} {w : World} {K : PySem.W.Frag} {mg : Str → Option Value} {base : Heap} {C : Addr}
def xlaw : { t : Stmt // top 29 = t } := ⟨_, by conv => { lhs; whnf }⟩
abbrev slaw : Stmt := xlaw.1
theorem sclaw : FnScope ["script", "draws", "row", "live", "beside", "kept", "first", "many", "number"] ["script"] (defScope slaw) := ⟨rfl, rfl, rfl, by decide +kernel, rfl, by decide +kernel, by decide +kernel⟩
theorem ok_law {f : Addr} {fd : FuncData} (B : Bl mg bls) (Fl : Fun K "law" "law" slaw f fd) (F_law_draws : Fn P w K mg base 1 "_law_draws" ["script"] (spDraws K)) (F_law_row : Fn P w K mg base 2 "_law_row" ["draws", "most"] spRow37) (F_law_grown : Fn P w K mg base 3 "_law_grown" ["row"] (spGrown K C))
    (F_law_answers : Fn P w K mg base 7 "_law_answers" ["live"] (spAns C)) (F_law_there_and_back : Fn P w K mg base 8 "_law_there_and_back" ["draws", "live", "row"] (spBack C)) (F_law_otherwise : Fn P w K mg base 8 "_law_otherwise" ["draws", "row"] spOther) (F_law_deed : Fn P w K mg base 3 "_law_deed" ["draws", "live", "row"] (spDeed C)) (MGrowing_put : MFn P w K mg base 2 C "put" ["self", "number"] (spPut C)) (MGrowing_take : MFn P w K mg base 2 C "take" ["self", "many"] (spTakeG C)) (MGrowing_numbers : MFn P w K mg base 1 C "numbers" ["self"] (spNumbers C)) : FnOk P w K mg base CX0 9 f fd ["script"] (spLaw K) := by
  refine Fl.ok sclaw (fun vs H Q E h => ?_) (fun cdv A outer s H vs Q E hr h => ?_)
  · obtain ⟨a, ns, rfl, _⟩ := h; rfl
  · obtain ⟨sc, ss, rfl, hs, hl, q⟩ := h
    refine' ⟨_, ?tm, ?rd⟩
    (case tm =>
      (conv => { arg 2; whnf })
      refine' pss_cons ?s0 ?r0
      (case s0 =>
        exact (ps_set (i := 1) sclaw.nd (by rfl) (by first | exact Or.inl rfl | exact Or.inr rfl) (pe_fn F_law_draws hr (by rfl) (pa_cons (pv 0) pa_nil))))
      (case r0 =>
        refine' pss_cons ?s0x ?r0x
        (case s0x =>
          exact (ps_set (i := 2) sclaw.nd (by rfl) (by first | exact Or.inl rfl | exact Or.inr rfl) (pe_fn F_law_row hr (by rfl) (pa_cons (pv 1) (pa_cons pe_int pa_nil)))))
        (case r0x =>
          refine' pss_cons ?s0xx ?r0xx
          (case s0xx =>
            exact (ps_set (i := 3) sclaw.nd (by rfl) (by first | exact Or.inl rfl | exact Or.inr rfl) (pe_fn F_law_grown hr (by rfl) (pa_cons (pv 2) pa_nil))))
          (case r0xx =>
            refine' pss_cons ?s0xxx ?r0xxx
            (case s0xxx =>
              exact (ps_set (i := 4) sclaw.nd (by rfl) (by first | exact Or.inl rfl | exact Or.inr rfl) (pe_fn F_law_grown hr (by rfl) (pa_cons (pv 2) pa_nil))))
            (case r0xxx =>
              refine' pss_cons ?s0xxxx ?r0xxxx
              (case s0xxxx =>
                exact (ps_set (i := 5) sclaw.nd (by rfl) (by first | exact Or.inl rfl | exact Or.inr rfl) (pe_fn F_law_answers hr (by rfl) (pa_cons (pv 4) pa_nil))))
              (case r0xxxx =>
                refine' pss_cons ?s0xxxxx ?r0xxxxx
                (case s0xxxxx =>
                  exact (ps_set (i := 6) sclaw.nd (by rfl) (by first | exact Or.inl rfl | exact Or.inr rfl) (pe_callTy call_list_of (by rfl) (B "list" (by decide +kernel)) (by decide +kernel) (pa_cons (pv 2) pa_nil))))
                (case r0xxxxx =>
                  refine' pss_cons ?s0xxxxxx ?r0xxxxxx
                  (case s0xxxxxx =>
                    exact (ps_set (i := 7) sclaw.nd (by rfl) (by first | exact Or.inl rfl | exact Or.inr rfl) pe_int))
                  (case r0xxxxxx =>
                    refine' pss_cons ?s0xxxxxxx ?r0xxxxxxx
                    (case s0xxxxxxx =>
                      refine' ps_while PassesOwn.never ?c0xxxxxxx ?d0xxxxxxx
                      (case c0xxxxxxx => exact (PW.pt (pw_or (pt_cmpR op_lt (pv 7) pe_int (nomark _)) (pw_or1 (PW.pt (pw_and (pt_cmpR (op_neLI hr.units) (pv 1) (pe_lst pa_nil) (nomark _)) (pw_and1 (pt_cmpR op_lt (pv 7) pe_int (nomark _)))))))))
                      (case d0xxxxxxx =>
                        refine' pss_cons ?s0xxxxxxxw ?r0xxxxxxxw
                        (case s0xxxxxxxw =>
                          exact (ps_set (i := 2) sclaw.nd (by rfl) (by first | exact Or.inl rfl | exact Or.inr rfl) (pe_fn F_law_deed hr (by rfl) (pa_cons (pv 1) (pa_cons (pv 3) (pa_cons (pv 2) pa_nil))))))
                        (case r0xxxxxxxw =>
                          refine' pss_cons ?s0xxxxxxxwx ?r0xxxxxxxwx
                          (case s0xxxxxxxwx =>
                            refine' ps_if ?c0xxxxxxxwx ?a0xxxxxxxwx ?b0xxxxxxxwx
                            (case c0xxxxxxxwx => exact (PW.pt (pw_or (pt_cmpR op_isN (pv 2) pe_non (nomark _)) (pw_or (pt_cmpR (op_neD hr.units) (pe_fn F_law_answers hr (by rfl) (pa_cons (pv 4) pa_nil)) (pv 5) (nomark _)) (pw_or1 (pt_cmpR (op_neLI hr.units) (pe_methC0 (pv 3) MGrowing_numbers hr) (pv 2) (nomark _)))))))
                            (case a0xxxxxxxwx =>
                              refine' pss_one ?s0xxxxxxxwxi
                              (case s0xxxxxxxwxi =>
                                exact (ps_ret pe_bl)))
                            (case b0xxxxxxxwx =>
                              exact pss_nil))
                          (case r0xxxxxxxwx =>
                            refine' pss_cons ?s0xxxxxxxwxx ?r0xxxxxxxwxx
                            (case s0xxxxxxxwxx =>
                              exact (ps_expr (pe_bm PySem.F.plainAttrs_list PySem.F.slot_list_append PySem.F.type_list_append mt_append (pe_methC0 (pv 3) MGrowing_numbers hr) (pa_cons pe_non pa_nil))))
                            (case r0xxxxxxxwxx =>
                              refine' pss_cons ?s0xxxxxxxwxxx ?r0xxxxxxxwxxx
                              (case s0xxxxxxxwxxx =>
                                refine' ps_if ?c0xxxxxxxwxxx ?a0xxxxxxxwxxx ?b0xxxxxxxwxxx
                                (case c0xxxxxxxwxxx => exact (PW.pt (pw_or (pt_not (pt_val (pe_fn F_law_there_and_back hr (by rfl) (pa_cons (pv 1) (pa_cons (pv 3) (pa_cons (pv 2) pa_nil)))))) (pw_or1 (pt_not (pt_val (pe_fn F_law_otherwise hr (by rfl) (pa_cons (pv 1) (pa_cons (pe_slice sl_list (pv 2) po_none (po_some pe_int)) pa_nil)))))))))
                                (case a0xxxxxxxwxxx =>
                                  refine' pss_one ?s0xxxxxxxwxxxi
                                  (case s0xxxxxxxwxxxi =>
                                    exact (ps_ret pe_bl)))
                                (case b0xxxxxxxwxxx =>
                                  exact pss_nil))
                              (case r0xxxxxxxwxxx =>
                                refine' pss_one ?s0xxxxxxxwxxxx
                                (case s0xxxxxxxwxxxx =>
                                  exact (ps_set (i := 7) sclaw.nd (by rfl) (by first | exact Or.inl rfl | exact Or.inr rfl) (pe_op op_add (pv 7) pe_int)))))))))
                    (case r0xxxxxxx =>
                      refine' pss_cons ?s0xxxxxxxx ?r0xxxxxxxx
                      (case s0xxxxxxxx =>
                        exact (ps_expr (pe_methC (pv 3) MGrowing_take hr (pa_cons (pe_callB call_len_seq (by rfl) (B "len" (by decide +kernel)) (by decide +kernel) (pa_cons (pv 2) pa_nil)) pa_nil))))
                      (case r0xxxxxxxx =>
                        refine' pss_cons ?s0xxxxxxxxx ?r0xxxxxxxxx
                        (case s0xxxxxxxxx =>
                          refine' ps_for PassesOwn.never (by rfl) ?i0xxxxxxxxx ?g0xxxxxxxxx ?d0xxxxxxxxx
                          (case i0xxxxxxxxx => exact (pi_list (pv 6)))
                          (case g0xxxxxxxxx => exact (pg_name (i := 8) sclaw.nd (by rfl) (by first | exact Or.inl rfl | exact Or.inr rfl)))
                          (case d0xxxxxxxxx =>
                            refine' pss_one ?s0xxxxxxxxxf
                            (case s0xxxxxxxxxf =>
                              exact (ps_expr (pe_methC (pv 3) MGrowing_put hr (pa_cons (pv 8) pa_nil))))))
                        (case r0xxxxxxxxx =>
                          refine' pss_one ?s0xxxxxxxxxx
                          (case s0xxxxxxxxxx =>
                            exact (ps_ret (pe_and (pe_cmpR (op_eqD hr.units) (pe_fn F_law_answers hr (by rfl) (pa_cons (pv 3) pa_nil)) (pv 5) (nomark _)) (pe_one (pe_cmpR (op_eqD hr.units) (pe_fn F_law_answers hr (by rfl) (pa_cons (pv 4) pa_nil)) (pv 5) (nomark _)))))))))))))))))
    refine ⟨_, rfl, sc, ss, rfl, hs, hl, fun p H1 fp s1 hD1 => ?_⟩
    dsimp only [gName]
    refine ⟨_, rfl, p, _, rfl, hD1, by decide, by decide, fun a H2 ns0 fa na k2 hD2 ca al ab => ?_⟩
    dsimp only [gName]
    have al' : ns0.length ≤ 60 := al
    refine ⟨_, rfl, a, ns0, rfl, SqL.of ca, by omega, fun o r H3 fo fr s3 lv => ?_⟩
    dsimp only [gName]
    have A0 : Apart C H3 p a o r ns0 := ⟨hD2.same s3, lv, s3 _ _ ca, na, fun z => hD2.some (z ▸ fr), fun z => by rw [z, fr] at ca; cases ca⟩
    refine ⟨_, rfl, a, ns0, rfl, SqL.of A0.ca, by omega, fun ob rb H4 fob frb s4 lvb => ?_⟩
    dsimp only [gName]
    have A4 := A0.same s4
    refine ⟨_, rfl, ob, rb, ns0, rfl, lvb, by omega, fun kl km H5 fkl fkm s5 an5 => ?_⟩
    dsimp only [gName]
    have A5 := A4.same s5
    refine ⟨_, rfl, a, _, rfl, .inl (SqL.of A5.ca), fun f1 hf1 => ?_⟩
    have s6 := Same.new (o := .lst (ns0.map V.int)) hf1
    have cf : upd H5 f1 (.lst (ns0.map V.int)) f1 = some (.lst (ns0.map V.int)) := upd_same
    have A6 := A5.same s6
    have lvb6 := lvb.same (s5.trans s6)
    have an6 := an5.same s6
    generalize upd H5 f1 (.lst (ns0.map V.int)) = H6 at s6 cf A6 lvb6 an6 ⊢
    dsimp only [gName]
    -- what stays
    have nS : ∀ {b : Addr} {Hx : Hp}, Same H3 Hx → Hx b = none → ¬ (b = p ∨ b = o ∨ b = r) := fun {b Hx} sx hb z => by
      have h3 := sx.free hb
      rcases z with z | z | z
      · exact A0.dr.some (z ▸ h3)
      · rw [z, A0.lv.choose_spec.1] at h3; cases h3
      · rw [z, A0.lv.choose_spec.2] at h3; cases h3
    obtain ⟨Z, hZ⟩ : ∃ Z : Hp, Z = hide (fun b => b = p ∨ b = o ∨ b = r) H6 := ⟨_, rfl⟩
    have zs : Same Z H6 := by rw [hZ]; exact hide_same _ _
    have zat : ∀ {b : Addr}, ¬ (b = p ∨ b = o ∨ b = r) → Z b = H6 b := fun h => by rw [hZ]; exact hide_at h
    have zno : ∀ {b : Addr}, (b = p ∨ b = o ∨ b = r) → Z b = none := fun h => by rw [hZ]; exact hide_none h
    have lvZ : LiveAt C Z ob rb ns0 := by
      obtain ⟨dx, h1, h2⟩ := lvb6
      exact ⟨dx, by rw [zat (nS (Same.refl _) fob)]; exact h1, by rw [zat (nS (Same.refl _) frb)]; exact h2⟩
    have anZ : AnsAt Z kl km ns0 := ⟨by rw [zat (nS s4 fkl)]; exact an6.1, by rw [zat (nS s4 fkm)]; exact an6.2⟩
    have cfZ : Z f1 = some (.lst (ns0.map V.int)) := by rw [zat (nS (s4.trans s5) hf1)]; exact cf
    have S0 : St52 C Z H6 p a o r ns0 := ⟨A6, zs, zno (.inl rfl), zno (.inr (.inl rfl)), zno (.inr (.inr rfl))⟩
    clear nS zs zat zno hZ A6 A5 A4 A0 lvb6 lvb an6 an5 cf s6 s5 s4 s3 hD2 hD1 s1 lv ca k2
    refine seqJ (fun σ' H' => σ' = [some (.ref sc), some (.ref p), some (.ref a), some (.ref o), some (.ref ob), some (.ref kl), some (.ref f1), some (.int 0), none] ∧ H' = H6) (fun fin => fin _ _ ⟨rfl, rfl⟩) ?_
    rintro _ _ ⟨rfl, rfl⟩
    refine seqJ (fun σ' H' => ∃ (a r : Addr) (ns : List Int) (m : Int) (v8 : Option V), σ' = [some (.ref sc), some (.ref p), some (.ref a), some (.ref o), some (.ref ob), some (.ref kl), some (.ref f1), some (.int m), v8] ∧ St52 C Z H' p a o r ns ∧ ns.length ≤ 72) (fun fin => ?_) ?_
    · refine ⟨fun mm σ' H' => ∃ (a r : Addr) (ns : List Int) (m : Int) (v8 : Option V), mm = (12 - m).toNat ∧ σ' = [some (.ref sc), some (.ref p), some (.ref a), some (.ref o), some (.ref ob), some (.ref kl), some (.ref f1), some (.int m), v8] ∧ 0 ≤ m ∧ m ≤ 12 ∧ St52 C Z H' p a o r ns ∧ (ns.length : Int) ≤ 60 + m ∧ (∀ n ∈ ns, B13 n), ⟨_, a, r, ns0, 0, _, rfl, rfl, by decide, by decide, S0, by omega, ab⟩, ?_⟩
      clear S0 ab al na fr fa r
      rintro mm σ' H4 ⟨a, r, ns, m, v8, rfl, rfl, m0, m1, Sx, nl, ab⟩
      refine testJ (fun b H' => Same H4 H' ∧ (b = true → m < 12)) (fun R fin2 => ?_) ?_
      · refine ⟨_, rfl, _, _, rfl, rfl, _, rfl, ?_⟩
        refine ite2 (fun z => fin2 _ _ ⟨Same.refl _, fun _ => by have : m < 1 := of_decide_eq_true z; omega⟩) (fun z => ?_)
        obtain ⟨ds, cds, _⟩ := id Sx.ap.dr
        refine ⟨_, rfl, (by show 0 ≤ sizeLine; decide), fun q1 hq1 => ⟨p, q1, ds, [], rfl, rfl, SqL.of ((Same.new hq1) _ _ cds), SqL.of upd_same, _, rfl, ?_⟩⟩
        refine ite2 (fun _ => ?_) (fun _ => fin2 _ _ ⟨Same.new hq1, fun z => absurd z (by decide)⟩)
        exact ⟨_, rfl, _, _, rfl, rfl, _, rfl, fin2 _ _ ⟨Same.new hq1, fun z => of_decide_eq_true z⟩⟩
      rintro b H5 ⟨s5, hb⟩
      replace Sx := Sx.same s5
      clear s5
      cases b with
      | false => exact fin _ _ ⟨a, r, ns, m, v8, rfl, Sx, by omega⟩
      | true =>
        have mlt := hb rfl
        clear hb
        refine ⟨_, fun σ' H' y => y, ?_⟩
        have Ap := Sx.ap
        refine ⟨_, rfl, _, rfl, _, rfl, p, o, r, a, ns, rfl, Ap.dr, Ap.lv, Ap.ca, Ap.op, Ap.rp, Ap.ap, Ap.ar, by omega, ab, fun a' r' H11 ms fa' fr' nar' lv11 ca11 ml300 ml mb hD11 k11 => ?_⟩
        have nrp' : r' ≠ p := fr'.elim (fun z => z ▸ Ap.rp) (fun z y => Ap.dr.some (y ▸ z))
        have zS : ∀ b, (b = p ∨ b = o ∨ b = r) → Z b = none := fun b z => by
          rcases z with z | z | z
          · rw [z]; exact Sx.zp
          · rw [z]; exact Sx.zo
          · rw [z]; exact Sx.zr
        have S2 : St52 C Z H11 p a' o r' ms := ⟨⟨hD11, lv11, ca11, fun z => Ap.dr.some (z ▸ fa'), nrp', nar'⟩, Sx.z.keepS k11 zS, Sx.zp, Sx.zo, fr'.elim (fun z => z ▸ Sx.zr) (fun z => Sx.z.free z)⟩
        clear k11 lv11 ca11 hD11 Sx Ap zS fr' fa' nrp'
        dsimp only [gName]
        refine seqJ (fun σ' H' => σ' = [some (.ref sc), some (.ref p), some (.ref a'), some (.ref o), some (.ref ob), some (.ref kl), some (.ref f1), some (.int m), v8] ∧ St52 C Z H' p a' o r' ms) (fun fin3 => ?_) ?_
        · refine ⟨_, rfl, rfl, _, rfl, ?_⟩
          refine ⟨_, rfl, ob, rb, ns0, rfl, lvZ.same S2.z, by omega, fun kl2 km2 H12 f2 f3 s12 an12 => ?_⟩
          have S3 := S2.same s12
          refine ⟨_, rfl, ansD ns0, ansD ns0, an12.dp, (anZ.same S3.z).dp, shapedAns _, shapedAns _, _, rfl, ?_⟩
          rw [eqvAns]
          obtain ⟨dx, ho, cr⟩ := id S3.ap.lv
          refine ⟨_, rfl, o, dx, _, rfl, ho, rfl, o, r', ms, rfl, S3.ap.lv, fun l H13 fl s13 cl => ?_⟩
          refine ⟨_, rfl, l, a', ms, ms, rfl, rfl, SqL.of cl, SqL.of (s13 _ _ S3.ap.ca), _, rfl, ifNot rfl ?_⟩
          exact fin3 _ _ ⟨rfl, S3.same s13⟩
        clear S2
        rintro _ H12 ⟨rfl, S2⟩
        -- live.numbers().append(None)
        obtain ⟨dx, ho, cr⟩ := id S2.ap.lv
        refine ⟨_, rfl, o, dx, _, rfl, ho, rfl, o, r', ms, rfl, S2.ap.lv, fun l H13 fl s13 cl => ?_⟩
        refine ⟨.inl ⟨rfl, _, SqL.of cl⟩, l, _, _, rfl, rfl, cl, by rw [List.length_map]; exact small1000 (by omega), ?_⟩
        have s14 : Same H12 (upd H13 l (.lst (ms.map V.int ++ [.non]))) := s13.at fl
        have S4 := S2.same s14
        dsimp only
        generalize upd H13 l (.lst (ms.map V.int ++ [.non])) = H14 at s14 S4 ⊢
        clear S2 s14 s13 cl fl ho cr
        refine seqJ (fun σ' H' => ∃ r : Addr, σ' = [some (.ref sc), some (.ref p), some (.ref a'), some (.ref o), some (.ref ob), some (.ref kl), some (.ref f1), some (.int m), v8] ∧ St52 C Z H' p a' o r ms) (fun fin3 => ?_) ?_
        · refine ⟨_, rfl, _, rfl, _, rfl, p, o, r', a', ms, rfl, S4.ap, by omega, fun H15 r2 fr2 lv15 D15 k15 => ⟨_, rfl, ?_⟩⟩
          have zS : ∀ b, (b = p ∨ b = o) → Z b = none := fun b z => by
            rcases z with z | z
            · rw [z]; exact S4.zp
            · rw [z]; exact S4.zo
          have na' : ¬ (a' = p ∨ a' = o) := fun z => z.elim S4.ap.ap S4.ap.ao
          have S5 : St52 C Z H15 p a' o r2 ms := ⟨⟨D15, lv15, k15 _ _ na' S4.ap.ca, S4.ap.ap, fun z => S4.ap.dr.some (z ▸ fr2), fun z => by have := S4.ap.ca; rw [z, fr2] at this; cases this⟩, S4.z.keepS k15 zS, S4.zp, S4.zo, S4.z.free fr2⟩
          refine ⟨_, rfl, _, rfl, _, rfl, a', _, rfl, SqL.of S5.ap.ca, fun c hc => ?_⟩
          rw [cut_ints]
          have s16 := Same.new (o := .lst ((cutI ms none (some 20)).map V.int)) hc
          have S6 := S5.same s16
          refine ⟨p, c, cutI ms none (some 20), rfl, S6.ap.dr, upd_same, S5.ap.dr.ne hc, ?_, fun H17 D17 k17 => ⟨_, rfl, ?_⟩⟩
          · have := cutI_len ms none (some 20); omega
          · exact fin3 _ _ ⟨r2, rfl, ⟨S6.ap.draw k17 D17, fun b x e => k17.ap (fun z => by rw [z, S6.zp] at e; cases e) (S6.z b x e), S6.zp, S6.zo, S6.zr⟩⟩
        rintro _ H15 ⟨r2, rfl, S5⟩
        refine ⟨_, rfl, _, _, rfl, rfl, ?_⟩
        exact ⟨(12 - (m + 1)).toNat, by omega, a', r2, ms, m + 1, _, rfl, rfl, by omega, by omega, S5, by omega, mb⟩
    clear S0 ab al na fr fa r
    rintro _ H7 ⟨a, r, ns, m, v8, rfl, Sx, nl⟩
    obtain ⟨dx, ho, cr⟩ := id Sx.ap.lv
    refine ⟨_, rfl, o, dx, _, rfl, ho, rfl, _, rfl, a, _, rfl, .inl (SqL.of Sx.ap.ca), o, r, ns, _, rfl, Sx.ap.lv, by omega, by rw [List.length_map]; omega, fun H8 r1 fr1 lv8 k8 => ?_⟩
    have e8 : ns.take (ns.length - ((((ns.map V.int).length : Nat) : Int)).toNat) = [] := by rw [List.length_map]; simp
    rw [e8] at lv8
    have z8 : Same Z H8 := fun b x e => k8.ap (fun z => by rw [z, Sx.zo] at e; cases e) (Sx.z b x e)
    have zr1 : Z r1 = none := Sx.z.free fr1
    dsimp only
    refine seqJ (fun σ' H' => ∃ v8 : Option V, σ' = [some (.ref sc), some (.ref p), some (.ref a), some (.ref o), some (.ref ob), some (.ref kl), some (.ref f1), some (.int m), v8] ∧ LiveAt C H' o r1 ns0 ∧ Same Z H') (fun fin => ?_) ?_
    · refine ⟨_, rfl, f1, rfl, ⟨_, SqL.of (z8 _ _ cfZ)⟩, for_list (K := K) (a := f1) (xs := ns0.map V.int) (fun i σ H' => ∃ v8 : Option V, σ = [some (.ref sc), some (.ref p), some (.ref a), some (.ref o), some (.ref ob), some (.ref kl), some (.ref f1), some (.int m), v8] ∧ LiveAt C H' o r1 (ns0.take i) ∧ Same Z H') ⟨_, rfl, by rw [List.take_zero]; exact lv8, z8⟩ (fun i σ H' _ ⟨_, _, _, z⟩ => SqL.of (z _ _ cfZ)) ?_ ?_⟩
      · rintro i x σ H9 hx ⟨v8, rfl, lv9, z9⟩
        obtain ⟨n, hn, rfl⟩ := get_ints hx
        obtain ⟨dx9, ho9, cr9⟩ := id lv9
        dsimp only [gName]
        refine ⟨_, rfl, o, dx9, _, rfl, ho9, rfl, _, rfl, o, r1, _, n, rfl, lv9, by rw [List.length_take]; omega, fun H10 lv10 k10 => ?_⟩
        exact ⟨_, rfl, by rw [take_snoc hn]; exact lv10, But.same z9 zr1 k10⟩
      · rintro σ H9 ⟨v8, rfl, lv9, z9⟩
        rw [List.length_map, List.take_length] at lv9
        exact fin _ _ ⟨_, rfl, lv9, z9⟩
    rintro _ H9 ⟨v8, rfl, lv9, z9⟩
    refine ⟨_, rfl, o, r1, ns0, rfl, lv9, by omega, fun kl2 km2 H10 f2 f3 s10 an10 => ?_⟩
    refine ⟨_, rfl, ansD ns0, ansD ns0, an10.dp, (anZ.same (z9.trans s10)).dp, shapedAns _, shapedAns _, _, rfl, ?_⟩
    rw [eqvAns]
    refine ⟨_, rfl, ob, rb, ns0, rfl, lvZ.same (z9.trans s10), by omega, fun kl3 km3 H11 f4 f5 s11 an11 => ?_⟩
    refine ⟨_, rfl, ansD ns0, ansD ns0, an11.dp, (anZ.same ((z9.trans s10).trans s11)).dp, shapedAns _, shapedAns _, ?_⟩
    rw [eqvAns]
    exact q H11
end

section
variable {K : PySem.W.Frag} {mg : Str → Option Value}
theorem bl_mk {h : Heap} (X : K.In h) (G : h.Ns mainGlobals mg) (z : ∀ x ∈ bls, PySem.W.nsIn K mainGlobals x = some none) : Bl mg bls := fun x hx => PySem.W.mg_none_of X G (z x hx)
theorem all_mk {l : PySem.W.OpenLaw} {w : World} {h : Heap} {fa f4 : Addr} {C : Addr} (X : K.In h) (G : h.Ns mainGlobals mg) (hfa : mg "law" = some (.ref fa)) (B : Bl mg bls)
    (d1 : DefAt K mg "_law_draws" s_law_draws ["script"])
    (d2 : DefAt K mg "_law_take" s_law_take ["draws", "many"])
    (d3 : DefAt K mg "_law_row" s_law_row ["draws", "most"])
    (d4 : DefAt K mg "reaches" sreaches ["row"])
    (d5 : DefAt K mg "held_within" sheld_within ["spans"])
    (d6 : DefAt K mg "many_held" smany_held ["row"])
    (d7 : DefG l.prog K mg "sum_of_leasts" ssum_of_leasts ["row"])
    (d8 : DefAt K mg "sum_of_greatests" ssum_of_greatests ["row"])
    (d9 : DefAt K mg "sum_of_spreads" ssum_of_spreads ["row"])
    (d10 : DefAt K mg "sums_by_end" ssums_by_end ["row", "spans"])
    (d11 : DefAt K mg "is_whole" sis_whole ["thing"])
    (d12 : DefAt K mg "last_sum_of_leasts" slast_sum_of_leasts ["row"])
    (d13 : DefI K mg "Growing" C "Growing.__init__" sGrowing___init__ ["self"])
    (c_Growing : GRC K C)
    (d15 : DefM K C "put" "Growing.put" sGrowing_put ["self", "number"])
    (d16 : DefM K C "take" "Growing.take" sGrowing_take ["self", "many"])
    (d17 : DefM K C "numbers" "Growing.numbers" sGrowing_numbers ["self"])
    (d18 : DefM K C "many" "Growing.many" sGrowing_many ["self"])
    (d19 : DefM K C "leasts" "Growing.leasts" sGrowing_leasts ["self"])
    (d20 : DefM K C "greatests" "Growing.greatests" sGrowing_greatests ["self"])
    (d21 : DefM K C "spreads" "Growing.spreads" sGrowing_spreads ["self"])
    (d22 : DefM K C "last_leasts" "Growing.last_leasts" sGrowing_last_leasts ["self"])
    (d23 : DefM K C "last_greatests" "Growing.last_greatests" sGrowing_last_greatests ["self"])
    (d24 : DefM K C "last_spreads" "Growing.last_spreads" sGrowing_last_spreads ["self"])
    (d25 : DefAt K mg "_law_number" s_law_number ["draws", "row"])
    (d26 : DefAt K mg "_law_deed" s_law_deed ["draws", "live", "row"])
    (d27 : DefAt K mg "_law_grown" s_law_grown ["row"])
    (d28 : DefAt K mg "_law_answers" s_law_answers ["live"])
    (d29 : DefAt K mg "_law_there_and_back" s_law_there_and_back ["draws", "live", "row"])
    (d30 : DefAt K mg "_law_otherwise" s_law_otherwise ["draws", "row"])
    {od4 an4 : Option Addr} {sl4 : Array (Option Value)} {oc4 kV4 dc4 pm4 cd4 ct4 : Value}
    (a4 : PySem.W.nsIn K mainGlobals "law" = some (some (.ref f4))) (l4 : K.lookup f4 = some ⟨oc4, od4, .func (PySem.W.fnOf "law" "law" (defArgs slaw) (defBody slaw) (defScope slaw) .none kV4 dc4 pm4 an4 cd4 ct4), sl4⟩) (c4 : PySem.W.codeIn K cd4 "law" = true) (k4 : PySem.W.keepIn K (.ref f4) = true) :
    ∃ fd : FuncData, (∀ (s : Shared) (v : Value), BindsTo s fd ⟨[v], []⟩ [("script", v)]) ∧ ∀ base : Heap, K.In base → base.Ns mainGlobals mg → FnOk l.prog w K mg base CX0 9 fa fd ["script"] (spLaw K) := by
  have e := hfa.symm.trans (PySem.W.mg_of X G a4)
  cases e
  have F4 := fun_mk (st := slaw) l4 c4 k4
  refine ⟨PySem.W.fnOf "law" "law" (defArgs slaw) (defBody slaw) (defScope slaw) .none kV4 dc4 pm4 an4 cd4 ct4, fun s v => .of_eq rfl, fun base _ _ => ?_⟩
  have w__law_draws := fn_draws (P := l.prog) (w := w) (K := K) (mg := mg) (base := base) B d1
  have w__law_take := fn_take (P := l.prog) (w := w) (K := K) (mg := mg) (base := base) B d2
  have w__law_row := fn_row37 (P := l.prog) (w := w) (K := K) (mg := mg) (base := base) B d3 w__law_take
  have w_reaches := fn_reaches (P := l.prog) (w := w) (K := K) (mg := mg) (base := base) B d4
  have w_held_within := fn_held_within (P := l.prog) (w := w) (K := K) (mg := mg) (base := base) B d5
  have w_many_held := fn_many_held (P := l.prog) (w := w) (K := K) (mg := mg) (base := base) B d6 w_reaches w_held_within
  have w_sum_of_leasts := fn_sum_of_leasts (P := l.prog) (w := w) (K := K) (mg := mg) (base := base) B d7 w_many_held
  have w_sum_of_greatests := fn_sum_of_greatests (P := l.prog) (w := w) (K := K) (mg := mg) (base := base) B d8 w_sum_of_leasts
  have w_sum_of_spreads := fn_sum_of_spreads (P := l.prog) (w := w) (K := K) (mg := mg) (base := base) B d9 w_sum_of_greatests w_sum_of_leasts
  have w_sums_by_end := fn_sums_by_end (P := l.prog) (w := w) (K := K) (mg := mg) (base := base) B d10
  have w_is_whole := fn_is_whole (P := l.prog) (w := w) (K := K) (mg := mg) (base := base) B d11
  have w_last_sum_of_leasts := fn_last_sum (P := l.prog) (w := w) (K := K) (mg := mg) (base := base) B d12 w_reaches w_sums_by_end
  have w_I_Growing := fn_GI (P := l.prog) (w := w) (K := K) (mg := mg) (base := base) (C := C) B c_Growing d13
  have w_M_Growing_put := fn_put (P := l.prog) (w := w) (K := K) (mg := mg) (base := base) (C := C) B c_Growing d15 w_is_whole
  have w_M_Growing_take := fn_takeG (P := l.prog) (w := w) (K := K) (mg := mg) (base := base) (C := C) B c_Growing d16 w_is_whole
  have w_M_Growing_numbers := fn_numbers (P := l.prog) (w := w) (K := K) (mg := mg) (base := base) (C := C) B c_Growing d17
  have w_M_Growing_many := fn_manyG (P := l.prog) (w := w) (K := K) (mg := mg) (base := base) (C := C) B c_Growing d18
  have w_M_Growing_leasts := fn_leastsG (P := l.prog) (w := w) (K := K) (mg := mg) (base := base) (C := C) B c_Growing d19 w_sum_of_leasts
  have w_M_Growing_greatests := fn_greatestsG (P := l.prog) (w := w) (K := K) (mg := mg) (base := base) (C := C) B c_Growing d20 w_sum_of_greatests
  have w_M_Growing_spreads := fn_spreadsG (P := l.prog) (w := w) (K := K) (mg := mg) (base := base) (C := C) B c_Growing d21 w_sum_of_spreads
  have w_M_Growing_last_leasts := fn_last_leasts (P := l.prog) (w := w) (K := K) (mg := mg) (base := base) (C := C) B c_Growing d22 w_last_sum_of_leasts
  have w_M_Growing_last_greatests := fn_last_greatests (P := l.prog) (w := w) (K := K) (mg := mg) (base := base) (C := C) B c_Growing d23 w_last_sum_of_leasts
  have w_M_Growing_last_spreads := fn_last_spreads (P := l.prog) (w := w) (K := K) (mg := mg) (base := base) (C := C) B d24 w_M_Growing_last_leasts w_M_Growing_last_greatests
  have w__law_number := fn_number37 (P := l.prog) (w := w) (K := K) (mg := mg) (base := base) B d25 w__law_take
  have w__law_deed := fn_deed (P := l.prog) (w := w) (K := K) (mg := mg) (base := base) (C := C) B d26 w__law_take w__law_number w_M_Growing_put w_M_Growing_take
  have w__law_grown := fn_grown (P := l.prog) (w := w) (K := K) (mg := mg) (base := base) (C := C) B d27 w_I_Growing w_M_Growing_put
  have w__law_answers := fn_answers (P := l.prog) (w := w) (K := K) (mg := mg) (base := base) (C := C) B d28 w_M_Growing_leasts w_M_Growing_greatests w_M_Growing_spreads w_M_Growing_last_leasts w_M_Growing_last_greatests w_M_Growing_last_spreads w_M_Growing_numbers w_M_Growing_many
  have w__law_there_and_back := fn_back (P := l.prog) (w := w) (K := K) (mg := mg) (base := base) (C := C) B d29 w__law_answers w__law_take w__law_number w_M_Growing_put w_M_Growing_take
  have w__law_otherwise := fn_otherwise (P := l.prog) (w := w) (K := K) (mg := mg) (base := base) (C := C) B d30 w__law_answers w__law_take w__law_grown
  exact ok_law B F4 w__law_draws w__law_row w__law_grown w__law_answers w__law_there_and_back w__law_otherwise w__law_deed w_M_Growing_put w_M_Growing_take w_M_Growing_numbers
end
theorem walk {l : PySem.W.OpenLaw} {q : Program} {loose : List Str} {XP : (Str → Option Value) → Heap → Prop} {YP : World → Heap → Prop} {d : DefRec} {K : Params → PySem.W.Frag} (hn : l.most = some 63) (hdf : d.params.defaults = []) (hq : PyProof.Rows.recsOf l.prog = PyProof.Rows.recsOf q) (hcl : ∀ w : World, PySem.W.kb_classed (K w.params) = true)
    (hY : ∀ (w : World) (h : Heap), YP w h → (K w.params).In h)
    (F : ∀ (w : World) (mg : Str → Option Value) (fa : Addr) (h : Heap), (K w.params).In h → h.Ns mainGlobals mg → mg d.name = some (.ref fa) →
      ∃ fd : FuncData, (∀ (s : Shared) (u : Value), BindsTo s fd ⟨[u], []⟩ [("script", u)]) ∧ ∀ base : Heap, (K w.params).In base → base.Ns mainGlobals mg → FnOk l.prog w (K w.params) mg base CX0 9 fa fd ["script"] (spLaw (K w.params))) :
    PySem.W.WalkO q loose XP YP l.row.toRowW d [] (fun f vs => PySem.call f vs) :=
  L2.walk_of (n := 63) (k := 9) (x := "script") (CX := fun _ => CX0) (sp := fun w => spLaw (K w.params)) hn (by decide) hdf ⟨rfl, by decide, by decide, rfl⟩ hq hcl hY F (fun _ _ a ns hl _ hS => ⟨a, ns, rfl, hS, hl, fun _ => rfl⟩) fun _ _ _ _ _ z => z


end Law

open PySem PySem.W PyProof.Rows
set_option maxRecDepth 100000 in
set_option maxHeartbeats 0 in
theorem PySem.Challenge.cw_stretchleast_k52_whole_growing_rows_apar_holds : PySem.Challenge.rw_stretchleast_k52_whole_growing_rows_apar.Holds := by
  w_on; o_law; k_head; (case hw => w_witness2)
  k_fill
  refine Law.walk (l := PySem.Challenge.rw_stretchleast_k52_whole_growing_rows_apar) rfl rfl rfl (fun w => by first | rfl | decide +kernel) (fun w h Y => PySem.W.kIn_of Y) ?F
  case F =>
    intro w mg fa h KX G hmg
    refine' Law.all_mk KX G hmg ?B ?d1 ?d2 ?d3 ?d4 ?d5 ?d6 ?d7 ?d8 ?d9 ?d10 ?d11 ?d12 ?d13 ?d14 ?d15 ?d16 ?d17 ?d18 ?d19 ?d20 ?d21 ?d22 ?d23 ?d24 ?d25 ?d26 ?d27 ?d28 ?d29 ?d30 ?a4 ?l4 ?c4 ?k4
    (case B => refine Law.bl_mk KX G ?_; intro x hx; simp only [Law.bls, List.mem_cons, List.not_mem_nil, or_false] at hx; rcases hx with rfl | rfl | rfl | rfl | rfl | rfl | rfl | rfl | rfl | rfl | rfl | rfl | rfl | rfl | rfl | rfl | rfl | rfl | rfl | rfl | rfl <;> k_is)
    (case d1 => refine' L2.defAt_mk KX G ?xa1 ?xl1 ?xc1 ?xk1 ?xb1; (case xa1 => k_is); (case xl1 => k_is); (case xc1 => k_is); (case xk1 => k_is); exact fun _ _ _ _ _ _ us hl => match us, hl with | [_], _ => rfl)
    (case d2 => refine' L2.defAt_mk KX G ?xa2 ?xl2 ?xc2 ?xk2 ?xb2; (case xa2 => k_is); (case xl2 => k_is); (case xc2 => k_is); (case xk2 => k_is); exact fun _ _ _ _ _ _ us hl => match us, hl with | [_, _], _ => rfl)
    (case d3 => refine' L2.defAt_mk KX G ?xa3 ?xl3 ?xc3 ?xk3 ?xb3; (case xa3 => k_is); (case xl3 => k_is); (case xc3 => k_is); (case xk3 => k_is); exact fun _ _ _ _ _ _ us hl => match us, hl with | [_, _], _ => rfl)
    (case d4 => refine' L2.defAt_mk KX G ?xa4 ?xl4 ?xc4 ?xk4 ?xb4; (case xa4 => k_is); (case xl4 => k_is); (case xc4 => k_is); (case xk4 => k_is); exact fun _ _ _ _ _ _ us hl => match us, hl with | [_], _ => rfl)
    (case d5 => refine' L2.defAt_mk KX G ?xa5 ?xl5 ?xc5 ?xk5 ?xb5; (case xa5 => k_is); (case xl5 => k_is); (case xc5 => k_is); (case xk5 => k_is); exact fun _ _ _ _ _ _ us hl => match us, hl with | [_], _ => rfl)
    (case d6 => refine' L2.defAt_mk KX G ?xa6 ?xl6 ?xc6 ?xk6 ?xb6; (case xa6 => k_is); (case xl6 => k_is); (case xc6 => k_is); (case xk6 => k_is); exact fun _ _ _ _ _ _ us hl => match us, hl with | [_], _ => rfl)
    (case d7 => refine' L2.defG_mk KX G ?xa7 ?xl7 ?xc7 ?xk7 ?xr7 ?xf7 ?xb7; (case xa7 => k_is); (case xl7 => k_is); (case xc7 => k_is); (case xk7 => k_is); (case xr7 => first | rfl | decide +kernel); (case xf7 => first | rfl | decide +kernel); exact fun _ _ _ _ _ _ us hl => match us, hl with | [_], _ => rfl)
    (case d8 => refine' L2.defAt_mk KX G ?xa8 ?xl8 ?xc8 ?xk8 ?xb8; (case xa8 => k_is); (case xl8 => k_is); (case xc8 => k_is); (case xk8 => k_is); exact fun _ _ _ _ _ _ us hl => match us, hl with | [_], _ => rfl)
    (case d9 => refine' L2.defAt_mk KX G ?xa9 ?xl9 ?xc9 ?xk9 ?xb9; (case xa9 => k_is); (case xl9 => k_is); (case xc9 => k_is); (case xk9 => k_is); exact fun _ _ _ _ _ _ us hl => match us, hl with | [_], _ => rfl)
    (case d10 => refine' L2.defAt_mk KX G ?xa10 ?xl10 ?xc10 ?xk10 ?xb10; (case xa10 => k_is); (case xl10 => k_is); (case xc10 => k_is); (case xk10 => k_is); exact fun _ _ _ _ _ _ us hl => match us, hl with | [_, _], _ => rfl)
    (case d11 => refine' L2.defAt_mk KX G ?xa11 ?xl11 ?xc11 ?xk11 ?xb11; (case xa11 => k_is); (case xl11 => k_is); (case xc11 => k_is); (case xk11 => k_is); exact fun _ _ _ _ _ _ us hl => match us, hl with | [_], _ => rfl)
    (case d12 => refine' L2.defAt_mk KX G ?xa12 ?xl12 ?xc12 ?xk12 ?xb12; (case xa12 => k_is); (case xl12 => k_is); (case xc12 => k_is); (case xk12 => k_is); exact fun _ _ _ _ _ _ us hl => match us, hl with | [_], _ => rfl)
    (case d13 => refine' L2.defI_mk KX G ?xn13 ?xm13 ?xq13 ?xa13 ?xi13 ?xl13 ?xc13 ?xk13 ?xb13; (case xn13 => k_is); (case xm13 => k_is); (case xq13 => k_is); (case xa13 => k_is); (case xi13 => k_is); (case xl13 => k_is); (case xc13 => k_is); (case xk13 => k_is); exact fun _ _ _ _ _ _ us hl => match us, hl with | [_], _ => rfl)
    (case d14 => refine' ⟨⟨?p114, ?p214, ?p314, ?p414⟩, ?n014⟩; (case p114 => k_is); (case p214 => k_is); (case p314 => k_is); (case p414 => k_is); (case n014 => (unfold L2.NoAttr; k_is)))
    (case d15 => refine' L2.defM_mk ⟨?p115, ?p215, ?p315, ?p415⟩ ?xa15 ?xi15 ?xl15 ?xc15 ?xk15 ?xb15; (case p115 => k_is); (case p215 => k_is); (case p315 => k_is); (case p415 => k_is); (case xa15 => k_is); (case xi15 => k_is); (case xl15 => k_is); (case xc15 => k_is); (case xk15 => k_is); exact fun _ _ _ _ _ _ us hl => match us, hl with | [_, _], _ => rfl)
    (case d16 => refine' L2.defM_mk ⟨?p116, ?p216, ?p316, ?p416⟩ ?xa16 ?xi16 ?xl16 ?xc16 ?xk16 ?xb16; (case p116 => k_is); (case p216 => k_is); (case p316 => k_is); (case p416 => k_is); (case xa16 => k_is); (case xi16 => k_is); (case xl16 => k_is); (case xc16 => k_is); (case xk16 => k_is); exact fun _ _ _ _ _ _ us hl => match us, hl with | [_, _], _ => rfl)
    (case d17 => refine' L2.defM_mk ⟨?p117, ?p217, ?p317, ?p417⟩ ?xa17 ?xi17 ?xl17 ?xc17 ?xk17 ?xb17; (case p117 => k_is); (case p217 => k_is); (case p317 => k_is); (case p417 => k_is); (case xa17 => k_is); (case xi17 => k_is); (case xl17 => k_is); (case xc17 => k_is); (case xk17 => k_is); exact fun _ _ _ _ _ _ us hl => match us, hl with | [_], _ => rfl)
    (case d18 => refine' L2.defM_mk ⟨?p118, ?p218, ?p318, ?p418⟩ ?xa18 ?xi18 ?xl18 ?xc18 ?xk18 ?xb18; (case p118 => k_is); (case p218 => k_is); (case p318 => k_is); (case p418 => k_is); (case xa18 => k_is); (case xi18 => k_is); (case xl18 => k_is); (case xc18 => k_is); (case xk18 => k_is); exact fun _ _ _ _ _ _ us hl => match us, hl with | [_], _ => rfl)
    (case d19 => refine' L2.defM_mk ⟨?p119, ?p219, ?p319, ?p419⟩ ?xa19 ?xi19 ?xl19 ?xc19 ?xk19 ?xb19; (case p119 => k_is); (case p219 => k_is); (case p319 => k_is); (case p419 => k_is); (case xa19 => k_is); (case xi19 => k_is); (case xl19 => k_is); (case xc19 => k_is); (case xk19 => k_is); exact fun _ _ _ _ _ _ us hl => match us, hl with | [_], _ => rfl)
    (case d20 => refine' L2.defM_mk ⟨?p120, ?p220, ?p320, ?p420⟩ ?xa20 ?xi20 ?xl20 ?xc20 ?xk20 ?xb20; (case p120 => k_is); (case p220 => k_is); (case p320 => k_is); (case p420 => k_is); (case xa20 => k_is); (case xi20 => k_is); (case xl20 => k_is); (case xc20 => k_is); (case xk20 => k_is); exact fun _ _ _ _ _ _ us hl => match us, hl with | [_], _ => rfl)
    (case d21 => refine' L2.defM_mk ⟨?p121, ?p221, ?p321, ?p421⟩ ?xa21 ?xi21 ?xl21 ?xc21 ?xk21 ?xb21; (case p121 => k_is); (case p221 => k_is); (case p321 => k_is); (case p421 => k_is); (case xa21 => k_is); (case xi21 => k_is); (case xl21 => k_is); (case xc21 => k_is); (case xk21 => k_is); exact fun _ _ _ _ _ _ us hl => match us, hl with | [_], _ => rfl)
    (case d22 => refine' L2.defM_mk ⟨?p122, ?p222, ?p322, ?p422⟩ ?xa22 ?xi22 ?xl22 ?xc22 ?xk22 ?xb22; (case p122 => k_is); (case p222 => k_is); (case p322 => k_is); (case p422 => k_is); (case xa22 => k_is); (case xi22 => k_is); (case xl22 => k_is); (case xc22 => k_is); (case xk22 => k_is); exact fun _ _ _ _ _ _ us hl => match us, hl with | [_], _ => rfl)
    (case d23 => refine' L2.defM_mk ⟨?p123, ?p223, ?p323, ?p423⟩ ?xa23 ?xi23 ?xl23 ?xc23 ?xk23 ?xb23; (case p123 => k_is); (case p223 => k_is); (case p323 => k_is); (case p423 => k_is); (case xa23 => k_is); (case xi23 => k_is); (case xl23 => k_is); (case xc23 => k_is); (case xk23 => k_is); exact fun _ _ _ _ _ _ us hl => match us, hl with | [_], _ => rfl)
    (case d24 => refine' L2.defM_mk ⟨?p124, ?p224, ?p324, ?p424⟩ ?xa24 ?xi24 ?xl24 ?xc24 ?xk24 ?xb24; (case p124 => k_is); (case p224 => k_is); (case p324 => k_is); (case p424 => k_is); (case xa24 => k_is); (case xi24 => k_is); (case xl24 => k_is); (case xc24 => k_is); (case xk24 => k_is); exact fun _ _ _ _ _ _ us hl => match us, hl with | [_], _ => rfl)
    (case d25 => refine' L2.defAt_mk KX G ?xa25 ?xl25 ?xc25 ?xk25 ?xb25; (case xa25 => k_is); (case xl25 => k_is); (case xc25 => k_is); (case xk25 => k_is); exact fun _ _ _ _ _ _ us hl => match us, hl with | [_, _], _ => rfl)
    (case d26 => refine' L2.defAt_mk KX G ?xa26 ?xl26 ?xc26 ?xk26 ?xb26; (case xa26 => k_is); (case xl26 => k_is); (case xc26 => k_is); (case xk26 => k_is); exact fun _ _ _ _ _ _ us hl => match us, hl with | [_, _, _], _ => rfl)
    (case d27 => refine' L2.defAt_mk KX G ?xa27 ?xl27 ?xc27 ?xk27 ?xb27; (case xa27 => k_is); (case xl27 => k_is); (case xc27 => k_is); (case xk27 => k_is); exact fun _ _ _ _ _ _ us hl => match us, hl with | [_], _ => rfl)
    (case d28 => refine' L2.defAt_mk KX G ?xa28 ?xl28 ?xc28 ?xk28 ?xb28; (case xa28 => k_is); (case xl28 => k_is); (case xc28 => k_is); (case xk28 => k_is); exact fun _ _ _ _ _ _ us hl => match us, hl with | [_], _ => rfl)
    (case d29 => refine' L2.defAt_mk KX G ?xa29 ?xl29 ?xc29 ?xk29 ?xb29; (case xa29 => k_is); (case xl29 => k_is); (case xc29 => k_is); (case xk29 => k_is); exact fun _ _ _ _ _ _ us hl => match us, hl with | [_, _, _], _ => rfl)
    (case d30 => refine' L2.defAt_mk KX G ?xa30 ?xl30 ?xc30 ?xk30 ?xb30; (case xa30 => k_is); (case xl30 => k_is); (case xc30 => k_is); (case xk30 => k_is); exact fun _ _ _ _ _ _ us hl => match us, hl with | [_, _], _ => rfl)
    (case a4 => k_is); (case l4 => k_is); (case c4 => k_is); (case k4 => k_is)
#print axioms PySem.Challenge.cw_stretchleast_k52_whole_growing_rows_apar_holds


