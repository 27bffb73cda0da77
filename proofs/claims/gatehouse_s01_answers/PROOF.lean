import PyProof.Rows.All
import Wide.All
import OpenK.AllK
import Wide.FinOn
import PyProof.EqAt
import PyProof.EqKinds
import PyProof.TupleCall
import KE.BitLaws
import Open.SpecLaws
import KE.OsHead
import KE.OsGo
import KE.KDictOf
import PyProof.ZipIter
import PyProof.TupleIter
import PyProof.WalksMore
import PyProof.DictRoadsH
import PyProof.DictUpdate
import PyProof.DictTruth
import PyVbemar
import KE.KDictSum
import KE.KSortTupG
import PySem.Challenge.RW_gatehouse_s01_answers
section
set_option Elab.async false
set_option linter.all false
set_option maxRecDepth 100000
namespace L2
open PySem PySem.Spec PyProof.Rows
/-- a key: an int or a str -/
abbrev Key := Sum Int Str
def keyIs : Key → Value → Bool
  | .inl k, v => Value.isInt k v
  | .inr x, v => Value.isStrOf x v
def keyH (w : World) : Key → Int
  | .inl k => hashInt k
  | .inr x => hashStr w x
theorem keyIs_shape : ∀ {k : Key} {v : Value}, keyIs k v = true → (∃ i t, k = Sum.inl i ∧ v = Value.int i t) ∨ (∃ x t, k = Sum.inr x ∧ v = Value.str x t)
  | .inl i, v, h => by
    obtain ⟨t, e⟩ := Value.isInt_shape (k := i) (v := v) h
    exact .inl ⟨i, t, rfl, e⟩
  | .inr x, v, h => by
    obtain ⟨t, e⟩ := Value.isStrOf_shape (x := x) (v := v) h
    exact .inr ⟨x, t, rfl, e⟩
theorem keyIs_int (i : Int) (t : Tok) : keyIs (.inl i) (.int i t) = true := by simp [keyIs, Value.isInt]
theorem keyIs_str (x : Str) (t : Tok) : keyIs (.inr x) (.str x t) = true := by simp [keyIs, Value.isStrOf]
theorem key_ll (a b : Int) : decide ((Sum.inl a : Key) = Sum.inl b) = (a == b) := by
  by_cases e : a = b
  · subst e; simp
  · have h : ¬ (Sum.inl a : Key) = Sum.inl b := fun q => e (Sum.inl.inj q)
    rw [decide_eq_false h]
    exact (beq_eq_false_iff_ne.mpr e).symm
theorem key_rr (a b : Str) : decide ((Sum.inr a : Key) = Sum.inr b) = decide (a = b) := by
  by_cases e : a = b
  · subst e; simp
  · have h : ¬ (Sum.inr a : Key) = Sum.inr b := fun q => e (Sum.inr.inj q)
    rw [decide_eq_false h, decide_eq_false e]
theorem key_lr (a : Int) (b : Str) : decide ((Sum.inl a : Key) = Sum.inr b) = false := decide_eq_false (fun q => nomatch q)
theorem key_rl (a : Str) (b : Int) : decide ((Sum.inr a : Key) = Sum.inl b) = false := decide_eq_false (fun q => nomatch q)
def mixKind (prog : Program) (w : World) : PySem.KeyKind prog w Key where
  is := keyIs
  hash := keyH w
  inj := fun v a b ha hb => by
    rcases keyIs_shape ha with ⟨i, t, rfl, rfl⟩ | ⟨x, t, rfl, rfl⟩
    · rcases keyIs_shape hb with ⟨j, u, rfl, e⟩ | ⟨y, u, rfl, e⟩
      · injection e with e1 _; rw [e1]
      · exact nomatch e
    · rcases keyIs_shape hb with ⟨j, u, rfl, e⟩ | ⟨y, u, rfl, e⟩
      · exact nomatch e
      · injection e with e1 _; rw [e1]
  byValue := fun k v h => by
    rcases keyIs_shape h with ⟨i, t, rfl, rfl⟩ | ⟨x, t, rfl, rfl⟩ <;> rfl
  pyHash := fun hv h => by
    rcases keyIs_shape hv with ⟨i, t, rfl, rfl⟩ | ⟨x, t, rfl, rfl⟩
    · exact wpAny_pyHash_int h
    · exact wpAny_pyHash_str h
  eqBool := fun hu hv h => by
    rcases keyIs_shape hu with ⟨i, t, rfl, rfl⟩ | ⟨x, t, rfl, rfl⟩
    · rcases keyIs_shape hv with ⟨j, u, rfl, rfl⟩ | ⟨y, u, rfl, rfl⟩
      · rw [key_ll] at h; exact wpAny_eqBool_int h
      · rw [key_lr] at h; exact SeqAt.EqAt.int_str i t y u _ _ _ _ h
    · rcases keyIs_shape hv with ⟨j, u, rfl, rfl⟩ | ⟨y, u, rfl, rfl⟩
      · rw [key_rl] at h; exact SeqAt.EqAt.str_int x t j u _ _ _ _ h
      · rw [key_rr] at h; exact wpAny_eqBool_str h
  «strs» := fun k x t v h => by
    rcases keyIs_shape h with ⟨i, u, rfl, e⟩ | ⟨y, u, rfl, e⟩
    · exact nomatch e
    · injection e with e1 _
      subst e1
      cases v <;> rfl
theorem mixKind_int (prog : Program) (w : World) (i : Int) (t : Tok) : (mixKind prog w).is (.inl i) (.int i t) = true := keyIs_int i t
theorem mixKind_str (prog : Program) (w : World) (x : Str) (t : Tok) : (mixKind prog w).is (.inr x) (.str x t) = true := keyIs_str x t
end L2
namespace L2
open PySem PySem.Spec PyProof.Rows
/-- a value, without the heap -/
inductive V where
  | non | bl (b : Bool) | int (i : Int) | str (x : Str) | byt (b : Array UInt8) | flt (b : UInt64) | ref (a : Addr) | ty (n : String)
  deriving DecidableEq
def RelV : V → Value → Prop
  | .non, u => u = Value.none
  | .bl b, u => u = Value.bool b
  | .int i, u => ∃ t, u = Value.int i t
  | .str x, u => ∃ t, u = Value.str x t
  | .byt b, u => ∃ t, u = Value.bytes b t
  | .flt b, u => ∃ t, u = Value.float b t
  | .ref a, u => u = Value.ref a
  | .ty n, u => u = Value.type n
abbrev Vals : List V → List Value → Prop := Paired RelV
theorem Vals.length {xs : List V} {us : List Value} (r : Vals xs us) : xs.length = us.length := Paired.length r
theorem Vals.get : ∀ {xs : List V} {us : List Value} {i : Nat} {x : V}, Vals xs us → xs[i]? = some x → ∃ u, us[i]? = some u ∧ RelV x u
  | _, _, _, _, .nil, e => by simp at e
  | _, _, 0, _, .cons r _, e => by simp at e; subst e; exact ⟨_, rfl, r⟩
  | _, _, i + 1, x, .cons _ t, e => by
    obtain ⟨u, h1, h2⟩ := Vals.get (i := i) (x := x) t (by simpa using e)
    exact ⟨u, by simpa using h1, h2⟩
theorem Vals.append : ∀ {xs ys : List V} {us ws : List Value}, Vals xs us → Vals ys ws → Vals (xs ++ ys) (us ++ ws)
  | _, _, _, _, .nil, s => s
  | _, _, _, _, .cons r t, s => .cons r (Vals.append t s)
theorem Vals.take : ∀ {xs : List V} {us : List Value} (n : Nat), Vals xs us → Vals (xs.take n) (us.take n)
  | _, _, 0, _ => .nil
  | _, _, _ + 1, .nil => .nil
  | _, _, n + 1, .cons r t => .cons r (Vals.take n t)
theorem Vals.drop : ∀ {xs : List V} {us : List Value} (n : Nat), Vals xs us → Vals (xs.drop n) (us.drop n)
  | _, _, 0, r => r
  | _, _, _ + 1, .nil => .nil
  | _, _, n + 1, .cons _ t => Vals.drop n t
def RelO : Option V → Option Value → Prop
  | some v, some u => RelV v u
  | none, none => True
  | _, _ => False
def KV {κ : Type} : List (κ × V) → List (κ × Value) → Prop := Paired fun (p : κ × V) (q : κ × Value) => p.1 = q.1 ∧ RelV p.2 q.2
/-- a key of a dict (00_mix): an int or a text -/
def kV : Key → V
  | .inl i => .int i
  | .inr x => .str x
/-- what stands at a tracked address -/
inductive HO where
  /-- a list -/
  | lst (xs : List V)
  /-- a tuple (never changes) -/
  | tup (xs : List V)
  /-- a dict whose keys are ints and texts; one whose keys are tuples of ints and texts (the empty one is both) -/
  | dK (kvs : List (Key × V)) | dT (kvs : List (List Key × V))
  /-- a set of ints: its members, its size -/
  | set (S : Int → Bool) (n : Nat)
  /-- an instance of the class at C, its dict at dx, its attributes -/
  | ins (C dx : Addr) (fs : List (Str × V))
  /-- the dict of the instance at x -/
  | own (x : Addr)
  /-- the dict of an exception -/
  | xd (fs : List (Str × V))
  /-- a bound method, f of x -/
  | met (f x : Addr)
  /-- a range object lo, lo + 1, .. below hi -/
  | rng (lo hi : Int)
  /-- a thing that is known to the object (the script; a dict while a loop walks it): read, never written while it is so -/
  | frz (o : Obj) (u : HO)
  /-- a code object's table -/
  | tbl (ps : Array Value)
  /-- any other thing, by what is true of its one object (a def of one's own: SetO a S n := HO.ext fun h => ..) -/
  | ext (φ : Heap → Prop)
abbrev Hp := Addr → Option HO
def upd (H : Hp) (a : Addr) (o : HO) : Hp := fun b => if b = a then some o else H b
theorem upd_same {H : Hp} {a : Addr} {o : HO} : upd H a o a = some o := by unfold upd; rw [if_pos rfl]
theorem upd_ne {H : Hp} {a b : Addr} {o : HO} (h : b ≠ a) : upd H a o b = H b := by unfold upd; rw [if_neg h]
theorem upd_upd {H : Hp} {a : Addr} {o u : HO} : upd (upd H a o) a u = upd H a u := by
  funext b; unfold upd; split <;> rfl
/-- two objects of different content stand apart -/
theorem ne_of {H : Hp} {a b : Addr} {o u : HO} (h : H a = some o) (h' : H b = some u) (d : o ≠ u) : a ≠ b := by
  intro e; subst e; rw [h] at h'; exact d (Option.some.inj h')
theorem ne_of_none {H : Hp} {a b : Addr} {o : HO} (h : H a = some o) (h' : H b = none) : a ≠ b := by
  intro e; subst e; rw [h] at h'; cases h'
section
variable (P : Program) (w : World)
def ObjOk (H : Hp) (h : Heap) (a : Addr) : HO → Prop
  | .lst xs => xs.length ≤ sizeLine ∧ ∃ (its : List Value) (n : Nat), Vals xs its ∧ h.get? a = some { cls := .type "list", data := .seq its.toArray n }
  | .tup xs => xs.length ≤ sizeLine ∧ ∃ its : List Value, Vals xs its ∧ IsTup h a its.toArray
  | .dK kvs => kvs.length ≤ sizeLine ∧ (a == sysModules) = false ∧ ∃ vs, KV kvs vs ∧ h.DictOf (mixKind P w) a vs
  | .dT kvs => kvs.length ≤ sizeLine ∧ (a == sysModules) = false ∧ ∃ xs : List (List Key × Addr × Value),
      Paired (fun (p : List Key × V) (q : List Key × Addr × Value) => p.1 = q.1 ∧ H q.2.1 = some (.tup (p.1.map kV)) ∧ RelV p.2 q.2.2) kvs xs ∧
      ∃ o es ep, h.get? a = some o ∧ o.ExactDict ∧ o.data = .dict es ep ∧ es.toList = xs.map (entryOfKey (tupleKind (mixKind P w))) ∧ (xs.map (·.1)).Nodup
  | .set S n => h.SetOf (intKind P w) a S n
  | .ins C dx fs => H dx = some (.own a) ∧ fs.length ≤ 1000 ∧ dx ≠ a ∧ h.get? a = some (PySem.W.instObj C dx) ∧
      ∃ mA, h.Ns1 dx mA ∧ (∀ f, RelO (fs.lookup f) (mA f)) ∧ PySem.Within mA (fs.map (·.1))
  | .own _ => ∃ o, h.get? a = some o
  | .xd fs => ∃ mA, h.Ns1 a mA ∧ ∀ f, RelO (fs.lookup f) (mA f)
  | .rng lo hi => ∃ t u v, h.get? a = some { cls := .type "range", data := .fields #[.int lo t, .int hi u, .int 1 v] }
  | .frz o u => h.get? a = some o ∧ ObjOk H h a u
  | .tbl ps => h.get? a = some { cls := .none, data := .fields ps }
  | .met f x => h.get? a = some (PySem.W.methodObj (.ref f) (.ref x))
  | .ext φ => φ h ∧ (∃ o, h.get? a = some o) ∧ ∀ h1 h2 : Heap, φ h1 → (∀ o, h1.get? a = some o → h2.get? a = some o) → φ h2
/-- the abstract heap is held -/
def HOk (H : Hp) (h : Heap) : Prop := ∀ a o, H a = some o → ObjOk P w H h a o
end
section
variable {P : Program} {w : World} {H H' : Hp} {h h' : Heap} {a : Addr} {o : HO}
theorem ObjOk.lt (x : ObjOk P w H h a o) : a < h.objs.size := by
  cases o with
  | lst xs => obtain ⟨_, _, _, _, e⟩ := x; exact Heap.lt_size e
  | tup xs => obtain ⟨_, _, _, p⟩ := x; exact p.lt
  | dK kvs => obtain ⟨_, _, _, _, o, _, _, e, _⟩ := x; exact Heap.lt_size e
  | dT kvs => obtain ⟨_, _, _, _, o, _, _, e, _⟩ := x; exact Heap.lt_size e
  | set S n => obtain ⟨o, _, _, _, e, _⟩ := x; exact Heap.lt_size e
  | ins C dx fs => obtain ⟨_, _, _, e, _⟩ := x; exact Heap.lt_size e
  | own y => obtain ⟨_, e⟩ := x; exact Heap.lt_size e
  | xd fs => obtain ⟨_, ⟨_, _, _, e, _⟩, _⟩ := x; exact Heap.lt_size e
  | rng lo hi => obtain ⟨_, _, _, e⟩ := x; exact Heap.lt_size e
  | frz ob u => obtain ⟨e, _⟩ := x; exact Heap.lt_size e
  | tbl ps => exact Heap.lt_size (show h.get? a = some _ from x)
  | met f y => exact Heap.lt_size (show h.get? a = some _ from x)
  | ext φ => obtain ⟨_, ⟨_, e⟩, _⟩ := x; exact Heap.lt_size e
theorem Paired.mapP {α β : Type} {F G : α → β → Prop} : ∀ {l₁ : List α} {l₂ : List β}, Paired F l₁ l₂ → (∀ a b, F a b → G a b) → Paired G l₁ l₂
  | _, _, .nil, _ => .nil
  | _, _, .cons r t, f => .cons (f _ _ r) (Paired.mapP t f)
/-- what an object's description leans on: its own object, its own dict, the tuples -/
theorem ObjOk.stay (x : ObjOk P w H h a o) (k : ∀ b u, (b = a ∨ H b = some (.own a)) → h.get? b = some u → h'.get? b = some u)
    (ho : ∀ b, H b = some (.own a) → H' b = some (.own a)) (ht : ∀ b xs, H b = some (.tup xs) → H' b = some (.tup xs)) : ObjOk P w H' h' a o := by
  induction o with
  | lst xs => obtain ⟨z, its, n, r, e⟩ := x; exact ⟨z, its, n, r, k _ _ (.inl rfl) e⟩
  | tup xs => obtain ⟨z, its, r, ob, e, c⟩ := x; exact ⟨z, its, r, ob, k _ _ (.inl rfl) e, c⟩
  | dK kvs => obtain ⟨z, y, vs, r, ob, es, ep, e, c⟩ := x; exact ⟨z, y, vs, r, ob, es, ep, k _ _ (.inl rfl) e, c⟩
  | dT kvs =>
    obtain ⟨z, y, xs, r, ob, es, ep, e, c⟩ := x
    exact ⟨z, y, xs, Paired.mapP r fun p q z => ⟨z.1, ht _ _ z.2.1, z.2.2⟩, ob, es, ep, k _ _ (.inl rfl) e, c⟩
  | set S n => obtain ⟨ob, es, ep, t, e, c⟩ := x; exact ⟨ob, es, ep, t, k _ _ (.inl rfl) e, c⟩
  | ins C dx fs =>
    obtain ⟨d, z, ne, e, mA, ⟨od, es, ep, e2, c⟩, r⟩ := x
    exact ⟨ho _ d, z, ne, k _ _ (.inl rfl) e, mA, ⟨od, es, ep, k _ _ (.inr d) e2, c⟩, r⟩
  | own y => obtain ⟨ob, e⟩ := x; exact ⟨ob, k _ _ (.inl rfl) e⟩
  | xd fs => obtain ⟨mA, ⟨od, es, ep, e, c⟩, r⟩ := x; exact ⟨mA, ⟨od, es, ep, k _ _ (.inl rfl) e, c⟩, r⟩
  | rng lo hi => obtain ⟨t, u, v, e⟩ := x; exact ⟨t, u, v, k _ _ (.inl rfl) e⟩
  | frz ob u ih => obtain ⟨e, q⟩ := x; exact ⟨k _ _ (.inl rfl) e, ih q⟩
  | tbl ps =>
    have e : h.get? a = some { cls := .none, data := .fields ps } := x
    show h'.get? a = some { cls := .none, data := .fields ps }
    exact k a _ (.inl rfl) e
  | met f y =>
    have e : h.get? a = some (PySem.W.methodObj (.ref f) (.ref y)) := x
    show h'.get? a = some (PySem.W.methodObj (.ref f) (.ref y))
    exact k a _ (.inl rfl) e
  | ext φ => obtain ⟨p, ⟨o, e⟩, st⟩ := x; exact ⟨st _ _ p fun o q => k _ _ (.inl rfl) q, ⟨o, k _ _ (.inl rfl) e⟩, st⟩
theorem HOk.lt (x : HOk P w H h) (e : H a = some o) : a < h.objs.size := (x a o e).lt
theorem HOk.fresh (x : HOk P w H h) (e : h.objs.size ≤ a) : H a = none := by
  cases q : H a with
  | none => rfl
  | some u => exact absurd (Nat.lt_of_lt_of_le (x.lt q) e) (Nat.lt_irrefl _)
/-- every object of the heap is kept -/
theorem HOk.kept (x : HOk P w H h) (k : ∀ b u, h.get? b = some u → h'.get? b = some u) : HOk P w H h' := fun a o e =>
  (x a o e).stay (fun b u _ q => k b u q) (fun _ q => q) fun _ _ q => q
/-- a new object is laid and tracked -/
theorem HOk.laid (x : HOk P w H h) (k : ∀ b u, h.get? b = some u → h'.get? b = some u) (hp : h.objs.size ≤ a) (new : ObjOk P w (upd H a o) h' a o) : HOk P w (upd H a o) h' := fun b u e => by
  have hn := x.fresh hp
  by_cases hb : b = a
  · subst hb; rw [upd_same] at e; cases e; exact new
  · rw [upd_ne hb] at e
    exact (x b u e).stay (fun c v _ q => k c v q) (fun c q => by rw [upd_ne (ne_of_none q hn)]; exact q) fun c xs q => by rw [upd_ne (ne_of_none q hn)]; exact q
end
/-- what may be read as u: it is u, or a known u -/
def Rd (H : Hp) (a : Addr) (u : HO) : Prop := H a = some u ∨ ∃ o, H a = some (.frz o u)
theorem Rd.ok {P : Program} {w : World} {H : Hp} {h : Heap} {a : Addr} {u : HO} (r : Rd H a u) (x : HOk P w H h) : ObjOk P w H h a u := by
  rcases r with r | ⟨o, r⟩
  · exact x a u r
  · obtain ⟨_, q⟩ := x a _ r
    exact q
/-- what may be written -/
def Mut : Option HO → Prop
  | some (.lst _) => True
  | some (.dK _) => True
  | some (.dT _) => True
  | some (.set _ _) => True
  | some (.ins _ _ _) => True
  | some (.ext _) => True
  | _ => False
section
variable {P : Program} {w : World} {H : Hp} {h h' : Heap} {x e : Addr} {o' : HO}
/-- the object at e is changed: x itself, or the dict of the instance x -/
theorem HOk.write (ok : HOk P w H h) (mu : Mut (H x)) (he : e = x ∨ H e = some (.own x)) (k : ∀ b u, b ≠ e → h.get? b = some u → h'.get? b = some u) (heo : ∃ u, h'.get? e = some u)
    (new : ObjOk P w (upd H x o') h' x o') : HOk P w (upd H x o') h' := fun b u q => by
  have nown : ∀ c y, H c = some (.own y) → c ≠ x := fun c y r z => by subst z; rw [r] at mu; exact mu
  have ntup : ∀ c xs, H c = some (.tup xs) → c ≠ x := fun c xs r z => by subst z; rw [r] at mu; exact mu
  by_cases hb : b = x
  · subst hb; rw [upd_same] at q; cases q; exact new
  · rw [upd_ne hb] at q
    by_cases hbe : b = e
    · have q' : H b = some (.own x) := by
        rcases he with z | z
        · exact absurd (hbe.trans z) hb
        · rw [hbe]; exact z
      rw [q] at q'; cases q'
      obtain ⟨v, hv⟩ := heo
      exact ⟨v, by rw [hbe]; exact hv⟩
    · refine (ok b u q).stay (fun c v hc r => k c v ?_ r) (fun c r => by rw [upd_ne (nown c b r)]; exact r) fun c xs r => by rw [upd_ne (ntup c xs r)]; exact r
      rcases hc with rfl | hc
      · exact hbe
      · rintro rfl
        rcases he with z | z
        · exact nown c b hc z
        · rw [hc] at z; cases z; exact hb rfl
end
structure Un (fs ex : List Addr) (H H' : Hp) (h h' : Heap) : Prop where
  keep : ∀ b o, h.get? b = some o → H b = none → b ∉ fs → b ∉ ex → h'.get? b = some o
  slot : ∀ b o, h.get? b = some o → H b = none → b ∈ fs → b ∉ ex → ∃ sl, h'.get? b = some { o with slots := sl }
  free : ∀ b o, h.get? b = some o → H b = none → b ∉ ex → H' b = none
  there : ∀ b o, h.get? b = some o → b ∉ ex → ∃ o', h'.get? b = some o'
  tups : ∀ b xs, H b = some (.tup xs) → H' b = some (.tup xs)
  frzs : ∀ b o u, H b = some (.frz o u) → H' b = some (.frz o u)
  tbls : ∀ b ps, H b = some (.tbl ps) → ∃ more, H' b = some (.tbl (ps ++ more))
section
variable {fs fs' ex ex' : List Addr} {H H1 H2 : Hp} {h h1 h2 h' : Heap} {a x e : Addr} {o : HO}
theorem Un.any (u : Un fs ex H H1 h h1) {b : Addr} {ob : Obj} (q : h.get? b = some ob) (n : H b = none) (hx : b ∉ ex) : ∃ sl, h1.get? b = some { ob with slots := sl } := by
  by_cases hb : b ∈ fs
  · exact u.slot b ob q n hb hx
  · exact ⟨ob.slots, u.keep b ob q n hb hx⟩
theorem Un.kept (k : ∀ b u, h.get? b = some u → h'.get? b = some u) : Un fs ex H H h h' :=
  ⟨fun b ob q _ _ _ => k b ob q, fun b ob q _ _ _ => ⟨ob.slots, k b ob q⟩, fun _ _ _ n _ => n, fun b ob q _ => ⟨ob, k b ob q⟩, fun _ _ q => q, fun _ _ _ q => q, fun _ ps q => ⟨#[], by rw [q]; simp⟩⟩
theorem Un.refl : Un fs ex H H h h := Un.kept fun _ _ q => q
theorem Un.laid (k : ∀ b u, h.get? b = some u → h'.get? b = some u) (hp : h.objs.size ≤ a) (hn : H a = none) : Un fs ex H (upd H a o) h h' where
  keep := fun b u q _ _ _ => k b u q
  slot := fun b u q _ _ _ => ⟨u.slots, k b u q⟩
  free := fun b u q n _ => by rw [upd_ne (Nat.ne_of_lt (Nat.lt_of_lt_of_le (Heap.lt_size q) hp))]; exact n
  there := fun b u q _ => ⟨u, k b u q⟩
  tups := fun b xs q => by rw [upd_ne (ne_of_none q hn)]; exact q
  frzs := fun b u xs q => by rw [upd_ne (ne_of_none q hn)]; exact q
  tbls := fun b ps q => ⟨#[], by rw [upd_ne (ne_of_none q hn), q]; simp⟩
theorem Un.write (mu : Mut (H x)) (he : e = x ∨ H e = some (.own x)) (k : ∀ b u, b ≠ e → h.get? b = some u → h'.get? b = some u) (heo : ∃ u, h'.get? e = some u) : Un fs ex H (upd H x o) h h' := by
  have hx : ∀ b, H b = none → b ≠ x := fun b n z => by subst z; rw [n] at mu; exact mu
  have hb : ∀ b, H b = none → b ≠ e := fun b n z => by
    subst z
    rcases he with r | r
    · exact hx b n r
    · rw [n] at r; cases r
  have hm : ∀ b u, H b = some u → ¬ Mut (some u) → b ≠ x := fun b u q nm z => by subst z; rw [q] at mu; exact nm mu
  refine ⟨fun b u q n _ _ => k b u (hb b n) q, fun b u q n _ _ => ⟨u.slots, k b u (hb b n) q⟩, fun b u q n _ => by rw [upd_ne (hx b n)]; exact n, fun b u q _ => ?_,
    fun b xs q => by rw [upd_ne (hm b _ q fun z => z)]; exact q, fun b u xs q => by rw [upd_ne (hm b _ q fun z => z)]; exact q, fun b ps q => ⟨#[], by rw [upd_ne (hm b _ q fun z => z), q]; simp⟩⟩
  by_cases hbe : b = e
  · subst hbe; exact heo
  · exact ⟨u, k b u hbe q⟩
end
def trk (h : Heap) (H : Hp) : List Addr := (List.range h.objs.size).filter fun a => (H a).isSome
def hidT (h : Heap) (H : Hp) : Heap := PySem.W.hideAll h (trk h H)
theorem hidT_size (h : Heap) (H : Hp) : (hidT h H).objs.size = h.objs.size := PySem.W.hideAll_size _ _
theorem hidT_get {h : Heap} {H : Hp} {b : Addr} {o : Obj} (e : h.get? b = some o) (n : H b = none) : (hidT h H).get? b = some o :=
  PySem.W.hideAll_get _ e fun hm => by
    have q : (H b).isSome = true := (List.mem_filter.mp hm).2
    rw [n] at q; simp at q
theorem of_hidT {h : Heap} {H : Hp} {b : Addr} {o : Obj} (e : (hidT h H).get? b = some o) : h.get? b = some o ∧ H b = none := by
  have e' : h.get? b = some o := PySem.W.of_hideAll (trk h H) e
  refine ⟨e', ?_⟩
  cases q : H b with
  | none => rfl
  | some x =>
    have hm : b ∈ trk h H := List.mem_filter.mpr ⟨List.mem_range.mpr (Heap.lt_size e'), by simp [q]⟩
    have z : (hidT h H).get? b = none := PySem.W.hideAll_none (trk h H) hm
    rw [z] at e; cases e
end L2
namespace L2
open PySem PySem.Spec PyProof.Rows
/-- the module's facts, over the base: the heap at the law's entry without what is tracked there -/
structure Mod (K : PySem.W.Frag) (mg : Str → Option Value) (base : Heap) : Prop where
  kin : K.In base
  glob : base.Ns mainGlobals mg
  blt : ∃ mb, base.Ns builtinsNs mb ∧ ∀ x : Str, x ≠ "__name__" → mb x = bootBuiltins x
  nolimit : base.NoLimit
/-- the context: a def's body (or a comprehension's block) running. base: fixed through the whole law; s₀, H₀: the entry; outer: the frames whose slots others may change (a def's callers); stack: all frames that run;
   ex: iterators that were made ahead of the entry and are walked here (a comprehension's); fn: the names whose cells were made at the entry (a def: all; a comprehension's block: its own); calm: not within an except suite; pn: pins that every state bears; xe: what is wanted of an exception that leaves the code -/
structure Cx where
  prog : Program
  w : World
  K : PySem.W.Frag
  mg : Str → Option Value
  base : Heap
  A : Around
  N : List Str
  s_0 : Shared
  H_0 : Hp
  env : Env
  outer : List Env
  stack : List Env
  ex : List Addr
  fn : Str → Bool
  calm : Bool
  pn : List (Addr × Obj)
  xe : Value → Shared → Prop
/-- the callers' frames -/
def frs (l : List Env) : List Addr := l.filterMap (·.frame)
abbrev Cx.fs (X : Cx) : List Addr := frs X.outer
def Vis (sc : Scope) (x : Str) : Prop := sc.names.lookup x = some .local ∨ sc.names.lookup x = some .cell ∨ sc.names.lookup x = some .free
def Loc (sc : Scope) (x : Str) : Prop := sc.names.lookup x = some .local ∨ sc.names.lookup x = some .cell
def Look (env : Env) (h : Heap) (m : Str → Option Value) (x : Str) (u : Value) : Prop :=
  (env.kindOf x = some .local ∧ m x = some u) ∨ ((env.kindOf x = some .cell ∨ env.kindOf x = some .free) ∧ ∃ c, env.cells.lookup x = some c ∧ h.IsCell c (some u))
structure Cx.Ok (X : Cx) : Prop where
  mod : Mod X.K X.mg X.base
  kind : X.env.scope.kind = .function
  glob : X.env.globals = mainGlobals
  blt : X.env.builtins = builtinsNs
  above : X.s_0.heap.objs.size ≤ X.env.locals
  inj : ∀ x y c, X.env.cells.lookup x = some c → X.env.cells.lookup y = some c → x = y
  has : ∀ x, (X.env.kindOf x = some .cell ∨ X.env.kindOf x = some .free) → ∃ c, X.env.cells.lookup x = some c
  cab : ∀ x c, X.fn x = true → X.env.cells.lookup x = some c → X.s_0.heap.objs.size ≤ c
  hd : X.calm = true → X.A.handled = none
  frames : X.A.frames = some X.stack
  stk : X.stack = X.outer ∨ (X.stack = X.env :: X.outer ∧ X.env.frame = some X.env.locals)
  exf : ∀ b ∈ X.ex, b ≠ X.env.locals ∧ ∀ x c, X.env.cells.lookup x = some c → c ≠ b
  bs : ∀ b o, X.base.get? b = some o → X.s_0.heap.get? b = some o ∧ X.H_0 b = none
  bsz : X.base.objs.size ≤ X.s_0.heap.objs.size
  noex : ∀ b o, X.base.get? b = some o → b ∉ X.ex
  exfs : ∀ b ∈ X.ex, b ∉ X.fs
  funs : X.s_0.heap.FunFrames X.base X.outer
  frf : ∀ b ∈ X.fs, X.H_0 b = none
structure Inv (X : Cx) (pins : List (Addr × Obj)) (σ : List (Option V)) (H : Hp) (s : Shared) : Prop where
  ok : X.Ok
  os : s.os = X.s_0.os
  bare : AllBare s.gens
  base : Un X.fs X.ex X.H_0 H X.s_0.heap s.heap
  loc : ∃ m, s.heap.Ns X.env.locals m ∧ ∀ (i : Nat) (x : Str) (v : V), X.N[i]? = some x → σ[i]? = some (some v) → Vis X.env.scope x → ∃ u, RelV v u ∧ Look X.env s.heap m x u
  cell : ∀ x c, X.env.cells.lookup x = some c → ∃ v, s.heap.IsCell c v
  free : H X.env.locals = none
  freeC : ∀ x c, X.env.cells.lookup x = some c → H c = none
  pin : ∀ p ∈ X.pn ++ pins, s.heap.get? p.1 = some p.2 ∧ H p.1 = none ∧ p.1 ≠ X.env.locals ∧ p.1 ∉ X.fs ∧ ∀ v, p.2.data ≠ .cell v
  hok : HOk X.prog X.w H s.heap
  len : σ.length = X.N.length
section
variable {X : Cx} {pins : List (Addr × Obj)} {σ : List (Option V)} {H H' : Hp} {s : Shared} {h' : Heap}
theorem Cx.Ok.nofr (ok : X.Ok) {b : Addr} {o : Obj} (e : X.base.get? b = some o) : b ∉ X.fs := fun hb => by
  have := (ok.funs.mem hb).1
  rw [e] at this; cases this
theorem Inv.bs (I : Inv X pins σ H s) : ∀ b o, X.base.get? b = some o → s.heap.get? b = some o ∧ H b = none := fun b o e =>
  ⟨I.base.keep b o (I.ok.bs b o e).1 (I.ok.bs b o e).2 (I.ok.nofr e) (I.ok.noex b o e), I.base.free b o (I.ok.bs b o e).1 (I.ok.bs b o e).2 (I.ok.noex b o e)⟩
theorem Inv.bk (I : Inv X pins σ H s) : ∀ b o, X.base.get? b = some o → s.heap.get? b = some o := fun b o e => (I.bs b o e).1
theorem Inv.mod (I : Inv X pins σ H s) : Mod X.K X.mg X.base := I.ok.mod
theorem Inv.kIn (I : Inv X pins σ H s) : X.K.In s.heap := I.ok.mod.kin.keeps I.bk
theorem Inv.lt (I : Inv X pins σ H s) : X.env.locals < s.heap.objs.size := let ⟨_, hn, _⟩ := I.loc; hn.lt
theorem Inv.sz (I : Inv X pins σ H s) : X.s_0.heap.objs.size ≤ s.heap.objs.size := Nat.le_trans I.ok.above (Nat.le_of_lt I.lt)
theorem Inv.nofs (I : Inv X pins σ H s) {a : Addr} (h : s.heap.objs.size ≤ a) : a ∉ X.fs := fun hb => by
  obtain ⟨_, o, ho, _⟩ := I.ok.funs.mem hb
  exact absurd (Nat.lt_of_lt_of_le (Heap.lt_size ho) (Nat.le_trans I.sz h)) (Nat.lt_irrefl _)
theorem Inv.cne (I : Inv X pins σ H s) : ∀ x c, X.env.cells.lookup x = some c → c ≠ X.env.locals := fun x c e z => by
  obtain ⟨v, o, ho, hd⟩ := I.cell x c e
  obtain ⟨m, ⟨o', es, ep, ho', hd', _⟩, _⟩ := I.loc
  rw [z, ho'] at ho; cases ho; rw [hd'] at hd; cases hd
theorem Inv.funs (I : Inv X pins σ H s) : s.heap.FunFrames X.base X.outer := by
  have all : ∀ (l : List Env), (∀ b ∈ frs l, b ∈ X.fs) → X.s_0.heap.FunFrames X.base l → s.heap.FunFrames X.base l := by
    intro l
    induction l with
    | nil => intro _ _; trivial
    | cons env r ih =>
      intro hs hl
      obtain ⟨hk, ⟨L, o, hf, hn, ho, hd⟩, hr⟩ := hl
      have hL : L ∈ X.fs := hs L (by unfold frs; rw [List.filterMap_cons, hf]; exact List.mem_cons_self)
      obtain ⟨sl, e⟩ := I.base.slot L o ho (I.ok.frf L hL) hL fun z => I.ok.exfs L z hL
      exact ⟨hk, ⟨L, _, hf, hn, e, hd⟩, ih (fun b hb => hs b (by unfold frs; rw [List.filterMap_cons, hf]; exact List.mem_cons_of_mem _ hb)) hr⟩
  exact all X.outer (fun _ hb => hb) I.ok.funs
/-- the frames that run, for a call -/
theorem Inv.stack (I : Inv X pins σ H s) : s.heap.FunFrames X.base X.stack := by
  rcases I.ok.stk with e | ⟨e, hf⟩
  · rw [e]; exact I.funs
  · rw [e]
    obtain ⟨m, hn, _⟩ := I.loc
    refine .cons (by rw [I.ok.kind]; decide) hf hn ?_ I.funs
    exact Heap.get?_none_of_le (Nat.le_trans I.ok.bsz I.ok.above)
theorem Inv.stkSub (I : Inv X pins σ H s) : ∀ b ∈ frs X.stack, b ∈ X.env.locals :: X.fs := fun b hb => by
  rcases I.ok.stk with e | ⟨e, hf⟩
  · rw [e] at hb; exact List.mem_cons_of_mem _ hb
  · rw [e] at hb
    unfold frs at hb
    rw [List.filterMap_cons, hf] at hb
    exact hb
theorem Inv.stkFree (I : Inv X pins σ H s) : ∀ b ∈ frs X.stack, H b = none := fun b hb => by
  rcases List.mem_cons.mp (I.stkSub b hb) with e | hb
  · rw [e]; exact I.free
  · obtain ⟨_, o, ho, _⟩ := I.ok.funs.mem hb
    exact I.base.free b o ho (I.ok.frf b hb) fun z => I.ok.exfs b z hb
/-- THE STEP: the untracked objects but the frame and the records at ch are kept (the callers' frames up to slots), the frame's map is kept, the new abstract heap is held -/
theorem Inv.step {g' : Array GenState} {t' : Nat} {d' : Drawn} {ch : List Addr} (I : Inv X pins σ H s)
    (hch : ∀ b ∈ ch, (b ∈ X.ex ∨ X.s_0.heap.objs.size ≤ b) ∧ b ≠ X.env.locals ∧ (∀ x c, X.env.cells.lookup x = some c → c ≠ b) ∧ ∀ p ∈ X.pn ++ pins, p.1 ≠ b)
    (keep : ∀ b o, b ≠ X.env.locals → b ∉ X.fs → b ∉ ch → s.heap.get? b = some o → H b = none → h'.get? b = some o)
    (slot : ∀ b o, b ≠ X.env.locals → b ∈ X.fs → b ∉ ch → s.heap.get? b = some o → H b = none → ∃ sl, h'.get? b = some { o with slots := sl }) (free : ∀ b o, b ∉ ch → s.heap.get? b = some o → H b = none → H' b = none)
    (there : ∀ b o, b ∉ ch → s.heap.get? b = some o → ∃ o', h'.get? b = some o')
    (tups : ∀ b xs, H b = some (.tup xs) → H' b = some (.tup xs)) (frzs : ∀ b o u, H b = some (.frz o u) → H' b = some (.frz o u)) (tbls : ∀ b ps, H b = some (.tbl ps) → ∃ more, H' b = some (.tbl (ps ++ more)))
    (ns : ∀ m, s.heap.Ns X.env.locals m → h'.Ns X.env.locals m) (hok : HOk X.prog X.w H' h') (hg : AllBare g') :
    Inv X pins σ H' { s with heap := h', gens := g', drawn := d', toks := t' } := by
  have neL : ∀ b o, X.s_0.heap.get? b = some o → b ≠ X.env.locals := fun b o e => Nat.ne_of_lt (Nat.lt_of_lt_of_le (Heap.lt_size e) I.ok.above)
  have neC : ∀ b o, X.s_0.heap.get? b = some o → b ∉ X.ex → b ∉ ch := fun b o e hx hb => by
    rcases (hch b hb).1 with z | z
    · exact hx z
    · exact absurd (Nat.lt_of_lt_of_le (Heap.lt_size e) z) (Nat.lt_irrefl _)
  have cellK : ∀ x c, X.env.cells.lookup x = some c → ∀ v, s.heap.IsCell c v → h'.IsCell c v := fun x c e v ⟨o, ho, hd⟩ => by
    have nch : c ∉ ch := fun z => (hch c z).2.2.1 x c e rfl
    by_cases hc : c ∈ X.fs
    · obtain ⟨sl, q⟩ := slot c o (I.cne x c e) hc nch ho (I.freeC x c e)
      exact ⟨_, q, hd⟩
    · exact ⟨o, keep c o (I.cne x c e) hc nch ho (I.freeC x c e), hd⟩
  refine ⟨I.ok, I.os, hg, ⟨fun b o e n hb hx => ?_, fun b o e n hb hx => ?_, fun b o e n hx => ?_, fun b o e hx => ?_, fun b xs e => tups b xs (I.base.tups b xs e), fun b o xs e => frzs b o xs (I.base.frzs b o xs e), fun b ps e => ?_⟩, ?_, fun x c e => ?_, ?_, fun x c e => ?_, fun p hp => ?_, hok, I.len⟩
  · exact keep b o (neL b o e) hb (neC b o e hx) (I.base.keep b o e n hb hx) (I.base.free b o e n hx)
  · obtain ⟨sl, e1⟩ := I.base.slot b o e n hb hx
    obtain ⟨sl', e2⟩ := slot b _ (neL b o e) hb (neC b o e hx) e1 (I.base.free b o e n hx)
    exact ⟨sl', e2⟩
  · obtain ⟨o', e1⟩ := I.base.there b o e hx
    exact free b o' (neC b o e hx) e1 (I.base.free b o e n hx)
  · obtain ⟨o', e1⟩ := I.base.there b o e hx
    exact there b o' (neC b o e hx) e1
  · obtain ⟨m1, e1⟩ := I.base.tbls b ps e
    obtain ⟨m2, e2⟩ := tbls b _ e1
    exact ⟨m1 ++ m2, by rw [e2, Array.append_assoc]⟩
  · obtain ⟨m, hn, hl⟩ := I.loc
    refine ⟨m, ns m hn, fun i x v e1 e2 e3 => ?_⟩
    obtain ⟨u, r, l⟩ := hl i x v e1 e2 e3
    refine ⟨u, r, ?_⟩
    rcases l with l | ⟨k, c, e, z⟩
    · exact .inl l
    · exact .inr ⟨k, c, e, cellK x c e _ z⟩
  · obtain ⟨v, z⟩ := I.cell x c e
    exact ⟨v, cellK x c e v z⟩
  · obtain ⟨m, ⟨o, _, _, ho, _⟩, _⟩ := I.loc
    exact free _ o (fun z => (hch _ z).2.1 rfl) ho I.free
  · obtain ⟨v, o, ho, hd⟩ := I.cell x c e
    exact free c o (fun z => (hch c z).2.2.1 x c e rfl) ho (I.freeC x c e)
  · obtain ⟨e, n, ne, nf, d⟩ := I.pin p hp
    have nch : p.1 ∉ ch := fun z => (hch p.1 z).2.2.2 p hp rfl
    exact ⟨keep p.1 p.2 ne nf nch e n, free p.1 p.2 nch e n, ne, nf, d⟩
/-- .. where the frame's own object is kept too -/
theorem Inv.un {t' : Nat} (I : Inv X pins σ H s) (u : Un X.fs [] H H' s.heap h') (hok : HOk X.prog X.w H' h') : Inv X pins σ H' { s with heap := h', toks := t' } := by
  obtain ⟨m, ⟨o, es, ep, ho, r⟩, _⟩ := id I.loc
  obtain ⟨sl, hL⟩ := u.any ho I.free (by simp)
  exact I.step (g' := s.gens) (d' := s.drawn) (ch := []) (fun _ z => nomatch z) (fun b o _ hb _ e n => u.keep b o e n hb (by simp)) (fun b o _ hb _ e n => u.slot b o e n hb (by simp)) (fun b o _ e n => u.free b o e n (by simp)) (fun b o _ e => u.there b o e (by simp)) u.tups u.frzs u.tbls (fun m' hm => by
    obtain ⟨o', es', ep', ho', r'⟩ := hm
    rw [ho] at ho'; cases ho'
    exact ⟨_, es', ep', hL, r'⟩) hok I.bare
/-- behind a call (or a comprehension's block): the slots of this frame may have changed too, the records at ch may have turned -/
theorem Inv.call {g' : Array GenState} {t' : Nat} {d' : Drawn} {ch : List Addr} (I : Inv X pins σ H s) (u : Un (frs X.stack) ch H H' s.heap h') (hok : HOk X.prog X.w H' h') (hg : AllBare g')
    (hch : ∀ b ∈ ch, (b ∈ X.ex ∨ X.s_0.heap.objs.size ≤ b) ∧ b ≠ X.env.locals ∧ (∀ x c, X.env.cells.lookup x = some c → c ≠ b) ∧ ∀ p ∈ X.pn ++ pins, p.1 ≠ b) :
    Inv X pins σ H' { s with heap := h', gens := g', drawn := d', toks := t' } := by
  obtain ⟨m, ⟨o, es, ep, ho, r⟩, _⟩ := id I.loc
  obtain ⟨sl, hL⟩ := u.any ho I.free fun z => (hch _ z).2.1 rfl
  exact I.step (ch := ch) hch (fun b o hL hb hc e n => u.keep b o e n (fun z => (List.mem_cons.mp (I.stkSub b z)).elim hL hb) hc) (fun b o _ _ hc e n => u.any e n hc) (fun b o hc e n => u.free b o e n hc) (fun b o hc e => u.there b o e hc) u.tups u.frzs u.tbls (fun m' hm => by
    obtain ⟨o', es', ep', ho', r'⟩ := hm
    rw [ho] at ho'; cases ho'
    exact ⟨_, es', ep', hL, r'⟩) hok hg
/-- an untracked record of ours (an iterator) has turned -/
theorem Inv.turned {t' : Nat} {it : Addr} (I : Inv X pins σ H s) (k : ∀ b o, b ≠ it → s.heap.get? b = some o → h'.get? b = some o) (hn : H it = none) (hL : it ≠ X.env.locals)
    (h1 : it ∈ X.ex ∨ X.s_0.heap.objs.size ≤ it) (h2 : ∀ x c, X.env.cells.lookup x = some c → c ≠ it) (h3 : ∀ p ∈ X.pn ++ pins, p.1 ≠ it) : Inv X pins σ H { s with heap := h', toks := t' } := by
  have nit : ∀ b u, H b = some u → b ≠ it := fun b u e z => by rw [z, hn] at e; cases e
  refine I.step (g' := s.gens) (d' := s.drawn) (ch := [it]) (fun b hb => ?_) (fun b o _ _ hc e _ => k b o (fun z => hc (by simp [z])) e) (fun b o _ _ hc e _ => ⟨o.slots, k b o (fun z => hc (by simp [z])) e⟩) (fun _ _ _ _ n => n)
    (fun b o hc e => ⟨o, k b o (fun z => hc (by simp [z])) e⟩) (fun _ _ e => e) (fun _ _ _ e => e) (fun b ps e => ⟨#[], by rw [e]; simp⟩) (fun m hm => ?_) (fun b u e => ?_) I.bare
  · have e : b = it := by simpa using hb
    subst e
    exact ⟨h1, hL, h2, h3⟩
  · obtain ⟨o, es, ep, ho, r⟩ := hm
    exact ⟨o, es, ep, k _ o (Ne.symm hL) ho, r⟩
  · refine (I.hok b u e).stay (fun c v hc q => k c v ?_ q) (fun _ q => q) fun _ _ q => q
    rcases hc with z | z
    · rw [z]; exact nit b u e
    · exact nit c _ z
theorem Inv.tok (I : Inv X pins σ H s) (t : Nat) : Inv X pins σ H { s with toks := t } := I.un (h' := s.heap) (t' := t) Un.refl I.hok
/-- all objects kept -/
theorem Inv.kept {t' : Nat} (I : Inv X pins σ H s) (k : ∀ b u, s.heap.get? b = some u → h'.get? b = some u) : Inv X pins σ H { s with heap := h', toks := t' } := I.un (Un.kept k) (I.hok.kept k)
/-- a new object laid and tracked -/
theorem Inv.laid {a : Addr} {o : HO} {t' : Nat} (I : Inv X pins σ H s) (k : ∀ b u, s.heap.get? b = some u → h'.get? b = some u) (hp : s.heap.objs.size ≤ a) (new : ObjOk X.prog X.w (upd H a o) h' a o) :
    Inv X pins σ (upd H a o) { s with heap := h', toks := t' } := I.un (Un.laid k hp (I.hok.fresh hp)) (I.hok.laid k hp new)
/-- an object written -/
theorem Inv.write {x e : Addr} {o : HO} {t' : Nat} (I : Inv X pins σ H s) (mu : Mut (H x)) (he : e = x ∨ H e = some (.own x)) (k : ∀ b u, b ≠ e → s.heap.get? b = some u → h'.get? b = some u) (heo : ∃ u, h'.get? e = some u)
    (new : ObjOk X.prog X.w (upd H x o) h' x o) : Inv X pins σ (upd H x o) { s with heap := h', toks := t' } := I.un (Un.write mu he k heo) (I.hok.write mu he k heo new)
/-- forgetting slots, pins -/
theorem Inv.weak {σ' : List (Option V)} (I : Inv X pins σ H s) (hl : σ'.length = σ.length) (w : ∀ (i : Nat) v, σ'[i]? = some (some v) → σ[i]? = some (some v)) : Inv X pins σ' H s :=
  ⟨I.ok, I.os, I.bare, I.base, let ⟨m, hn, hl'⟩ := I.loc; ⟨m, hn, fun i x v e1 e2 e3 => hl' i x v e1 (w i v e2) e3⟩, I.cell, I.free, I.freeC, I.pin, I.hok, hl.trans I.len⟩
theorem Inv.pins_of {pins' : List (Addr × Obj)} (I : Inv X pins σ H s) (h : ∀ p ∈ pins', s.heap.get? p.1 = some p.2 ∧ H p.1 = none ∧ p.1 ≠ X.env.locals ∧ p.1 ∉ X.fs ∧ ∀ v, p.2.data ≠ .cell v) : Inv X pins' σ H s :=
  ⟨I.ok, I.os, I.bare, I.base, I.loc, I.cell, I.free, I.freeC, fun p hp => (List.mem_append.mp hp).elim (fun z => I.pin p (List.mem_append_left _ z)) (h p), I.hok, I.len⟩
theorem nodup_ix {N : List Str} (hN : N.Nodup) {i j : Nat} {x : Str} (a : N[i]? = some x) (b : N[j]? = some x) : i = j := by
  obtain ⟨h1, e1⟩ := List.getElem?_eq_some_iff.mp a
  obtain ⟨h2, e2⟩ := List.getElem?_eq_some_iff.mp b
  exact (List.getElem_inj hN).mp (e1.trans e2.symm)
/-- a name is stored; what changed -/
theorem store_ok2 {M : Model} {A : Around} {E : Value → Shared → Prop} {i : Nat} {x : Str} {v : V} {u : Value} {Q : Unit → Shared → Prop} (I : Inv X pins σ H s) (hN : X.N.Nodup) (hi : X.N[i]? = some x) (hx : Loc X.env.scope x) (r : RelV v u)
    (h : ∀ s', Inv X pins (σ.set i (some v)) H s' → (∃ a, Heap.SameBut a s.heap s'.heap ∧ (a = X.env.locals ∨ X.env.cells.lookup x = some a)) → Q () s') (hf : X.fn x = true ∨ X.env.scope.names.lookup x = some .local := by first | exact .inl rfl | exact .inr rfl | assumption) : wpAny M A (storeName X.env x u) Q E s := by
  obtain ⟨m, hn, hl⟩ := id I.loc
  have hcls : (X.env.scope.kind == .class || (X.env.scope.kind == .module && X.env.locals != X.env.globals)) = false := by rw [I.ok.kind]; rfl
  have hiσ : i < σ.length := by rw [I.len]; exact (List.getElem?_eq_some_iff.mp hi).1
  have cne := I.cne
  have tracked : ∀ {a : Addr} {h' : Heap}, (∃ o, s.heap.get? a = some o ∧ H a = none) → Heap.SameBut a s.heap h' → HOk X.prog X.w H h' := fun {a h'} ha hs b ob e => by
    obtain ⟨_, _, hfree⟩ := ha
    refine (I.hok b ob e).stay (fun c w' hc q => (hs.2 c ?_).trans q) (fun _ q => q) fun _ _ q => q
    rintro rfl
    rcases hc with rfl | hc
    · rw [hfree] at e; cases e
    · rw [hfree] at hc; cases hc
  rcases hx with hk | hk
  · refine wpAny_storeName_local hk hn (fun h' hn' hs => ?_) hcls
    obtain ⟨oL, _, _, hoL, _⟩ := id hn
    refine h _ ⟨I.ok, I.os, I.bare, ⟨fun b o e n hb hx => ?_, fun b o e n hb hx => ?_, I.base.free, fun b o e hx => ?_, I.base.tups, I.base.frzs, I.base.tbls⟩, ⟨_, hn', fun j y v' e1 e2 e3 => ?_⟩, fun y c e => ?_, I.free, I.freeC, fun p hp => ?_, tracked ⟨oL, hoL, I.free⟩ hs, by simpa using I.len⟩ ⟨_, hs, .inl rfl⟩
    · exact (hs.2 b (Nat.ne_of_lt (Nat.lt_of_lt_of_le (Heap.lt_size e) I.ok.above))).trans (I.base.keep b o e n hb hx)
    · obtain ⟨sl, e1⟩ := I.base.slot b o e n hb hx
      exact ⟨sl, (hs.2 b (Nat.ne_of_lt (Nat.lt_of_lt_of_le (Heap.lt_size e) I.ok.above))).trans e1⟩
    · obtain ⟨o', e1⟩ := I.base.there b o e hx
      exact ⟨o', (hs.2 b (Nat.ne_of_lt (Nat.lt_of_lt_of_le (Heap.lt_size e) I.ok.above))).trans e1⟩
    · by_cases hj : j = i
      · subst hj
        rw [hi] at e1; cases e1
        rw [List.getElem?_set_self hiσ] at e2
        cases e2
        exact ⟨u, r, .inl ⟨hk, by simp⟩⟩
      · rw [List.getElem?_set_ne (Ne.symm hj)] at e2
        obtain ⟨u', r', q⟩ := hl j y v' e1 e2 e3
        refine ⟨u', r', ?_⟩
        rcases q with ⟨k, e⟩ | ⟨k, c, e, z⟩
        · refine .inl ⟨k, ?_⟩
          have : y ≠ x := fun e => hj (nodup_ix hN e1 (e ▸ hi))
          simp [this, e]
        · exact .inr ⟨k, c, e, z.sameBut hs (cne y c e)⟩
    · obtain ⟨w', z⟩ := I.cell y c e
      exact ⟨w', z.sameBut hs (cne y c e)⟩
    · obtain ⟨e, n, ne, nf, d⟩ := I.pin p hp
      exact ⟨(hs.2 p.1 ne).trans e, n, ne, nf, d⟩
  · have hfn : X.fn x = true := by
      rcases hf with z | z
      · exact z
      · rw [z] at hk; cases hk
    obtain ⟨c, hc⟩ := I.ok.has x (.inl hk)
    obtain ⟨w', z⟩ := I.cell x c hc
    refine wpAny_storeName_cell I.ok.kind hk hc z (fun h' hc' hs => ?_)
    obtain ⟨oc, hoc, hocd⟩ := id z
    refine h { s with heap := h' } ⟨I.ok, I.os, I.bare, ⟨fun b o e n hb hx => ?_, fun b o e n hb hx => ?_, I.base.free, fun b o e hx => ?_, I.base.tups, I.base.frzs, I.base.tbls⟩, ⟨m, hn.sameBut hs (Ne.symm (cne x c hc)), fun j y v' e1 e2 e3 => ?_⟩, fun y c' e => ?_, I.free, I.freeC, fun p hp => ?_, tracked ⟨oc, hoc, I.freeC x c hc⟩ hs, by simpa using I.len⟩ ⟨c, hs, .inr hc⟩
    · exact (hs.2 b (Nat.ne_of_lt (Nat.lt_of_lt_of_le (Heap.lt_size e) (I.ok.cab x c hfn hc)))).trans (I.base.keep b o e n hb hx)
    · obtain ⟨sl, e1⟩ := I.base.slot b o e n hb hx
      exact ⟨sl, (hs.2 b (Nat.ne_of_lt (Nat.lt_of_lt_of_le (Heap.lt_size e) (I.ok.cab x c hfn hc)))).trans e1⟩
    · obtain ⟨o', e1⟩ := I.base.there b o e hx
      exact ⟨o', (hs.2 b (Nat.ne_of_lt (Nat.lt_of_lt_of_le (Heap.lt_size e) (I.ok.cab x c hfn hc)))).trans e1⟩
    · by_cases hj : j = i
      · subst hj
        rw [hi] at e1; cases e1
        rw [List.getElem?_set_self hiσ] at e2
        cases e2
        exact ⟨u, r, .inr ⟨.inl hk, c, hc, hc'⟩⟩
      · rw [List.getElem?_set_ne (Ne.symm hj)] at e2
        obtain ⟨u', r', q⟩ := hl j y v' e1 e2 e3
        refine ⟨u', r', ?_⟩
        rcases q with q | ⟨k, c', e, z'⟩
        · exact .inl q
        · refine .inr ⟨k, c', e, z'.sameBut hs ?_⟩
          rintro rfl
          exact hj (nodup_ix hN e1 (I.ok.inj _ _ _ e hc ▸ hi))
    · by_cases hcc : c' = c
      · subst hcc; exact ⟨_, hc'⟩
      · obtain ⟨w2, z2⟩ := I.cell y c' e
        exact ⟨w2, z2.sameBut hs hcc⟩
    · obtain ⟨e, n, ne, nf, d⟩ := I.pin p hp
      refine ⟨(hs.2 p.1 ?_).trans e, n, ne, nf, d⟩
      intro q
      rw [q, hoc] at e
      have q' : oc = p.2 := Option.some.inj e
      exact d w' (by rw [← q']; exact hocd)
theorem store_ok {M : Model} {A : Around} {E : Value → Shared → Prop} {i : Nat} {x : Str} {v : V} {u : Value} {Q : Unit → Shared → Prop} (I : Inv X pins σ H s) (hN : X.N.Nodup) (hi : X.N[i]? = some x) (hx : Loc X.env.scope x) (r : RelV v u)
    (h : ∀ s', Inv X pins (σ.set i (some v)) H s' → Q () s') (hf : X.fn x = true ∨ X.env.scope.names.lookup x = some .local := by first | exact .inl rfl | exact .inr rfl | assumption) : wpAny M A (storeName X.env x u) Q E s :=
  store_ok2 I hN hi hx r (fun s' I' _ => h s' I') hf
/-- behind a call or a block, the state as it is -/
theorem Inv.call' {s' : Shared} {ch : List Addr} (I : Inv X pins σ H s) (ho : s'.os = s.os) (u : Un (frs X.stack) ch H H' s.heap s'.heap) (hok : HOk X.prog X.w H' s'.heap) (hg : AllBare s'.gens)
    (hch : ∀ b ∈ ch, (b ∈ X.ex ∨ X.s_0.heap.objs.size ≤ b) ∧ b ≠ X.env.locals ∧ (∀ x c, X.env.cells.lookup x = some c → c ≠ b) ∧ ∀ p ∈ X.pn ++ pins, p.1 ≠ b) : Inv X pins σ H' s' := by
  obtain ⟨h', g', d', t', o'⟩ := s'
  have e : o' = s.os := ho
  subst e
  exact I.call (g' := g') (t' := t') (d' := d') u hok hg hch
end
/-- an exception: its class, its own dict's address (where it has one), the abstract heap behind it -/
abbrev XK := Value → Option Addr → Hp → Prop
abbrev St := List (Option V)
abbrev VK := V → Hp → Prop
/-- an expression's reading; a test's; an argument list's -/
abbrev TE := St → Hp → VK → Prop
abbrev TT := St → Hp → (Bool → Hp → Prop) → Prop
abbrev TA := St → Hp → (List V → Hp → Prop) → Prop
/-- what is wanted behind a statement -/
structure Ends where
  nx : St → Hp → Prop
  rt : VK
  bk : St → Hp → Prop := fun _ _ => False
  ct : St → Hp → Prop := fun _ _ => False
abbrev TS := Ends → St → Hp → Prop
def EP (X : Cx) (pins : List (Addr × Obj)) (σ : St) (Q : VK) (u : Value) (s' : Shared) : Prop := ∃ v H', Inv X pins σ H' s' ∧ RelV v u ∧ Q v H'
def TP (X : Cx) (pins : List (Addr × Obj)) (σ : St) (Q : Bool → Hp → Prop) (b : Bool) (s' : Shared) : Prop := ∃ H', Inv X pins σ H' s' ∧ Q b H'
def AP (X : Cx) (pins : List (Addr × Obj)) (σ : St) (Q : List V → Hp → Prop) (us : List Value) (s' : Shared) : Prop := ∃ vs H', Inv X pins σ H' s' ∧ Vals vs us ∧ Q vs H'
def SP (X : Cx) (pins : List (Addr × Obj)) (D : Ends) (f : Flow) (s' : Shared) : Prop :=
  match f with
  | .next => ∃ σ' H', Inv X pins σ' H' s' ∧ D.nx σ' H'
  | .brk => ∃ σ' H', Inv X pins σ' H' s' ∧ D.bk σ' H'
  | .cont => ∃ σ' H', Inv X pins σ' H' s' ∧ D.ct σ' H'
  | .ret u => ∃ v σ' H', Inv X pins σ' H' s' ∧ RelV v u ∧ D.rt v H'
def PE (X : Cx) (e : Expr) (t : TE) : Prop :=
  ∀ (pins : List (Addr × Obj)) (s : Shared) (σ : St) (H : Hp) (Q : VK), Inv X pins σ H s → t σ H Q → wpAny (model X.prog X.w) X.A (eval e X.env) (EP X pins σ Q) X.xe s
def PT (X : Cx) (e : Expr) (t : TT) : Prop :=
  ∀ (pins : List (Addr × Obj)) (s : Shared) (σ : St) (H : Hp) (Q : Bool → Hp → Prop), Inv X pins σ H s → t σ H Q → wpAny (model X.prog X.w) X.A (isTrue e X.env (eval e X.env)) (TP X pins σ Q) X.xe s
/-- a test whatever its 'whole' is (and, or) -/
def PW (X : Cx) (e : Expr) (t : TT) : Prop :=
  ∀ (whole : Sem Value) (pins : List (Addr × Obj)) (s : Shared) (σ : St) (H : Hp) (Q : Bool → Hp → Prop), Inv X pins σ H s → t σ H Q → wpAny (model X.prog X.w) X.A (isTrue e X.env whole) (TP X pins σ Q) X.xe s
theorem PW.pt {X : Cx} {e : Expr} {t : TT} (h : PW X e t) : PT X e t := h _
/-- an argument list (no star), from the left -/
def PA (X : Cx) (es : List Expr) (t : TA) : Prop :=
  ∀ (pos : Pos) (pins : List (Addr × Obj)) (s : Shared) (σ : St) (H : Hp) (Q : List V → Hp → Prop), Inv X pins σ H s → t σ H Q → wpAny (model X.prog X.w) X.A (spliced (backTo pos (starEach es X.env))) (AP X pins σ Q) X.xe s
def PS (X : Cx) (st : Stmt) (t : TS) : Prop :=
  ∀ (pins : List (Addr × Obj)) (s : Shared) (σ : St) (H : Hp) (D : Ends), Inv X pins σ H s → t D σ H → wpAny (model X.prog X.w) X.A (exec st X.env) (SP X pins D) X.xe s
def PSs (X : Cx) (st : List Stmt) (t : TS) : Prop :=
  ∀ (pins : List (Addr × Obj)) (s : Shared) (σ : St) (H : Hp) (D : Ends), Inv X pins σ H s → t D σ H → wpAny (model X.prog X.w) X.A (execs st X.env) (SP X pins D) X.xe s
/-- weaken the end -/
theorem thn {α : Type} {t : Sem α} {Q Q' : α → Shared → Prop} {M : Model} {A : Around} {E : Value → Shared → Prop} {s : Shared} (h : wpAny M A t Q E s) (hQ : ∀ a s, Q a s → Q' a s) : wpAny M A t Q' E s := wpAny_mono h hQ fun _ _ x => x
end L2
namespace L2
open PySem PySem.Spec PyProof.Rows
section
variable {X : Cx}
def tVar (i : Nat) : TE := fun σ H Q => ∃ v, σ[i]? = some (some v) ∧ Q v H
def tC (v : V) : TE := fun _ H Q => Q v H
theorem pe_var {i : Nat} {x : Str} {pos : Pos} (hN : X.N[i]? = some x) (hv : Vis X.env.scope x) (hd : (x == ("__debug__" : Str)) = false := by decide) (hcd : (x == ("__classdict__" : Str)) = false := by decide) : PE X (.Name x pos) (tVar i) := by
  intro pins s σ H Q I h
  obtain ⟨v, e, h⟩ := h
  obtain ⟨m, hn, hl⟩ := I.loc
  obtain ⟨u, r, l⟩ := hl i x v hN e hv
  have fin : EP X pins σ Q u s := ⟨v, H, I, r, h⟩
  rcases l with ⟨hk, hm⟩ | ⟨hk, c, hc, hcell⟩
  · exact wpAny_Name (wpAny_loadName_local I.ok.kind hk hn hm fin) hd
  · rcases hk with hk | hk
    · exact wpAny_Name (wpAny_loadName_cell I.ok.kind hk hc hcell fin) hd
    · exact wpAny_Name (wpAny_loadName_free I.ok.kind hk hc hcell fin hcd) hd
theorem pe_int {i j pos} : PE X (.Constant (.int i) j pos) (tC (.int i)) := fun _ _ _ H _ I h => wpAny_Constant_int ⟨.int i, H, I.tok _, ⟨_, rfl⟩, h⟩
theorem pe_bl {b j pos} : PE X (.Constant (.bool b) j pos) (tC (.bl b)) := fun _ _ _ H _ I h => Constant_bool ⟨.bl b, H, I, rfl, h⟩
theorem pe_non {j pos} : PE X (.Constant .none j pos) (tC .non) := fun _ _ _ H _ I h => Constant_none ⟨.non, H, I, rfl, h⟩
/-- a global name of the def -/
def Gl (X : Cx) (x : Str) : Prop := X.env.kindOf x = some .globalImplicit
theorem ld_glob {E : Value → Shared → Prop} {pins : List (Addr × Obj)} {s : Shared} {σ : St} {H : Hp} {x : Str} {u : Value} {pos : Pos} {Q : Value → Shared → Prop} (I : Inv X pins σ H s) (hg : Gl X x) (hm : X.mg x = some u) (h : Q u s)
    (hd : (x == ("__debug__" : Str)) = false := by decide) : wpAny (model X.prog X.w) X.A (eval (.Name x pos) X.env) Q E s :=
  Calls.Name_function_global I.ok.kind hg (Calls.loadGlobal_global (by rw [I.ok.glob]; exact I.mod.glob.keeps I.bk) hm h) hd
theorem ld_blt {E : Value → Shared → Prop} {pins : List (Addr × Obj)} {s : Shared} {σ : St} {H : Hp} {x : Str} {u : Value} {pos : Pos} {Q : Value → Shared → Prop} (I : Inv X pins σ H s) (hg : Gl X x) (hm : X.mg x = none) (hv : bootBuiltins x = some u) (h : Q u s)
    (hn : x ≠ "__name__" := by decide) (hd : (x == ("__debug__" : Str)) = false := by decide) : wpAny (model X.prog X.w) X.A (eval (.Name x pos) X.env) Q E s := by
  obtain ⟨mb, h1, h2⟩ := I.mod.blt
  exact Calls.Name_function_global I.ok.kind hg (Calls.loadGlobal_builtin (by rw [I.ok.glob]; exact I.mod.glob.keeps I.bk) hm (by rw [I.ok.blt]; exact h1.keeps I.bk) ((h2 x hn).trans hv) h) hd
/-- a module's constant, a class, a function, as a value -/
theorem pe_glob {x : Str} {v : V} {u : Value} {pos : Pos} (hg : Gl X x) (hm : X.mg x = some u) (r : RelV v u) (hd : (x == ("__debug__" : Str)) = false := by decide) : PE X (.Name x pos) (tC v) :=
  fun _ _ _ H _ I h => ld_glob I hg hm ⟨v, H, I, r, h⟩ hd
variable {a b : Expr} {ta tb : TE} {pos : Pos}
variable {tA tB' : TT} {rest : List Expr}
def tAnd (t u : TT) : TT := fun σ H Q => t σ H fun c H1 => if c = true then u σ H1 Q else Q false H1
def tOr (t u : TT) : TT := fun σ H Q => t σ H fun c H1 => if c = true then Q true H1 else u σ H1 Q
def tNot (t : TT) : TT := fun σ H Q => t σ H fun c H1 => Q (!c) H1
theorem pw_and1 (ha : PT X a tA) : PW X (.BoolOp .And [a] pos) tA := by
  intro wh pins s σ H Q I h
  refine isTrue_and (thn (ha pins s σ H Q I h) fun c s1 e => ?_)
  cases c with
  | true => exact isTrue_and_nil e
  | false => exact e
theorem pw_or1 (ha : PT X a tA) : PW X (.BoolOp .Or [a] pos) tA := by
  intro wh pins s σ H Q I h
  refine isTrue_or (thn (ha pins s σ H Q I h) fun c s1 e => ?_)
  cases c with
  | false => exact isTrue_or_nil e
  | true => exact e
theorem pw_and (ha : PT X a tA) (hb : PW X (.BoolOp .And (b :: rest) pos) tB') : PW X (.BoolOp .And (a :: b :: rest) pos) (tAnd tA tB') := by
  intro wh pins s σ H Q I h
  refine isTrue_and (thn (ha pins s σ H _ I h) fun c s1 ⟨H1, I1, q1⟩ => ?_)
  cases c with
  | true => exact hb wh pins s1 σ H1 Q I1 q1
  | false => exact ⟨H1, I1, q1⟩
theorem pw_or (ha : PT X a tA) (hb : PW X (.BoolOp .Or (b :: rest) pos) tB') : PW X (.BoolOp .Or (a :: b :: rest) pos) (tOr tA tB') := by
  intro wh pins s σ H Q I h
  refine isTrue_or (thn (ha pins s σ H _ I h) fun c s1 ⟨H1, I1, q1⟩ => ?_)
  cases c with
  | true => exact ⟨H1, I1, q1⟩
  | false => exact hb wh pins s1 σ H1 Q I1 q1
theorem pt_not (ha : PT X a tA) : PT X (.UnaryOp .Not a pos) (tNot tA) := by
  intro pins s σ H Q I h
  exact isTrue_not (ha pins s σ H (fun c H1 => Q (!c) H1) I h)
/-- a if t else b -/
def tIf (t : TT) (ta tb : TE) : TE := fun σ H Q => t σ H fun c H1 => if c = true then ta σ H1 Q else tb σ H1 Q
theorem pe_ifExp {c : Expr} (hc : PT X c tA) (ha : PE X a ta) (hb : PE X b tb) : PE X (.IfExp c a b pos) (tIf tA ta tb) := by
  intro pins s σ H Q I h
  refine wpAny_IfExp (thn (hc pins s σ H _ I h) fun d s1 ⟨H1, I1, q1⟩ => ?_)
  cases d with
  | true => exact ha pins s1 σ H1 Q I1 q1
  | false => exact hb pins s1 σ H1 Q I1 q1
end
end L2
namespace L2
open PySem PySem.Spec PyProof.Rows
def SqL (K : PySem.W.Frag) (H : Hp) (a : Addr) (xs : List V) : Prop :=
  Rd H a (.lst xs) ∨
    ∃ (o : Obj) (its : Array Value) (n : Nat), K.lookup a = some o ∧ o.cls = .type "list" ∧ o.dict = none ∧ o.data = .seq its n ∧ its.size ≤ sizeLine ∧ Vals xs its.toList
def SqT (K : PySem.W.Frag) (H : Hp) (a : Addr) (xs : List V) : Prop :=
  Rd H a (.tup xs) ∨
    ∃ (o : Obj) (its : Array Value) (n : Nat), K.lookup a = some o ∧ o.cls = .type "tuple" ∧ o.data = .seq its n ∧ its.size ≤ sizeLine ∧ Vals xs its.toList
def absV : Value → Option V
  | .none => some .non
  | .bool b => some (.bl b)
  | .int i _ => some (.int i)
  | .str x _ => some (.str x)
  | .bytes b _ => some (.byt b)
  | .float b _ => some (.flt b)
  | .ref a => some (.ref a)
  | .type n => some (.ty n)
  | _ => none
theorem RelV.abs {x : V} {u : Value} (r : RelV x u) : absV u = some x := by
  cases x with
  | non => cases r; rfl
  | bl _ => cases r; rfl
  | int _ => obtain ⟨t, rfl⟩ := r; rfl
  | str _ => obtain ⟨t, rfl⟩ := r; rfl
  | byt _ => obtain ⟨t, rfl⟩ := r; rfl
  | flt _ => obtain ⟨t, rfl⟩ := r; rfl
  | ref _ => cases r; rfl
  | ty _ => cases r; rfl
theorem RelV.inj {x y : V} {u : Value} (r : RelV x u) (q : RelV y u) : x = y := Option.some.inj (r.abs.symm.trans q.abs)
theorem Vals.inj : ∀ {xs ys : List V} {us : List Value}, Vals xs us → Vals ys us → xs = ys
  | _, _, _, .nil, .nil => rfl
  | _, _, _, .cons r t, .cons r' t' => by rw [r.inj r', Vals.inj t t']
section
variable {X : Cx} {pins : List (Addr × Obj)} {σ : St} {H : Hp} {s : Shared} {a : Addr} {xs ys : List V}
theorem SqL.of {K : PySem.W.Frag} (h : H a = some (.lst xs)) : SqL K H a xs := .inl (.inl h)
theorem SqT.of {K : PySem.W.Frag} (h : H a = some (.tup xs)) : SqT K H a xs := .inl (.inl h)
theorem Inv.list (I : Inv X pins σ H s) (h : SqL X.K H a xs) : ∃ its : List Value, Vals xs its ∧ PlainL s.heap a its.toArray ∧ xs.length ≤ sizeLine := by
  rcases h with h | ⟨o, its, n, hk, hc, hd, hs, hz, r⟩
  · obtain ⟨z, its, n, r, e⟩ := h.ok I.hok
    exact ⟨its, r, ⟨_, n, e, rfl, rfl, rfl⟩, z⟩
  · refine ⟨its.toList, r, ⟨o, n, I.kIn a o hk, hc, hd, by simpa using hs⟩, ?_⟩
    have e := r.length
    simp only [Array.length_toList] at e
    omega
theorem Inv.tuple (I : Inv X pins σ H s) (h : SqT X.K H a xs) : ∃ its : List Value, Vals xs its ∧ IsTup s.heap a its.toArray ∧ xs.length ≤ sizeLine := by
  rcases h with h | ⟨o, its, n, hk, hc, hs, hz, r⟩
  · obtain ⟨z, its, r, p⟩ := h.ok I.hok
    exact ⟨its, r, p, z⟩
  · refine ⟨its.toList, r, ⟨o, I.kIn a o hk, hc, n, by simpa using hs⟩, ?_⟩
    have e := r.length
    simp only [Array.length_toList] at e
    omega
theorem Inv.list_inj (I : Inv X pins σ H s) (h : SqL X.K H a xs) (h' : SqL X.K H a ys) : xs = ys := by
  obtain ⟨its, r, ⟨o, n, e, _, _, d⟩, _⟩ := I.list h
  obtain ⟨its', r', ⟨o', n', e', _, _, d'⟩, _⟩ := I.list h'
  rw [e] at e'; cases e'
  rw [d] at d'
  injection d' with d1 _
  have : its = its' := by simpa using congrArg Array.toList d1
  subst this
  exact r.inj r'
theorem Inv.tuple_inj (I : Inv X pins σ H s) (h : SqT X.K H a xs) (h' : SqT X.K H a ys) : xs = ys := by
  obtain ⟨its, r, ⟨o, e, _, n, d⟩, _⟩ := I.tuple h
  obtain ⟨its', r', ⟨o', e', _, n', d'⟩, _⟩ := I.tuple h'
  rw [e] at e'; cases e'
  rw [d] at d'
  injection d' with d1 _
  have : its = its' := by simpa using congrArg Array.toList d1
  subst this
  exact r.inj r'
end
abbrev Cx.wish (X : Cx) (E : Value → Shared → Prop) : Cx := { X with xe := E }
/-- no exception leaves -/
abbrev Cx.nox (X : Cx) : Cx := X.wish fun _ _ => False
theorem Cx.Ok.wish {X : Cx} (ok : X.Ok) (E : Value → Shared → Prop) : (X.wish E).Ok :=
  ⟨ok.mod, ok.kind, ok.glob, ok.blt, ok.above, ok.inj, ok.has, ok.cab, ok.hd, ok.frames, ok.stk, ok.exf, ok.bs, ok.bsz, ok.noex, ok.exfs, ok.funs, ok.frf⟩
theorem Cx.Ok.unwish {X : Cx} {E : Value → Shared → Prop} (ok : (X.wish E).Ok) : X.Ok :=
  ⟨ok.mod, ok.kind, ok.glob, ok.blt, ok.above, ok.inj, ok.has, ok.cab, ok.hd, ok.frames, ok.stk, ok.exf, ok.bs, ok.bsz, ok.noex, ok.exfs, ok.funs, ok.frf⟩
section
variable {X : Cx} {pins : List (Addr × Obj)} {σ : St} {H : Hp} {s : Shared} {E : Value → Shared → Prop}
theorem Inv.wish (I : Inv X pins σ H s) (E : Value → Shared → Prop) : Inv (X.wish E) pins σ H s := ⟨I.ok.wish E, I.os, I.bare, I.base, I.loc, I.cell, I.free, I.freeC, I.pin, I.hok, I.len⟩
theorem Inv.unwish (I : Inv (X.wish E) pins σ H s) : Inv X pins σ H s := ⟨I.ok.unwish, I.os, I.bare, I.base, I.loc, I.cell, I.free, I.freeC, I.pin, I.hok, I.len⟩
theorem SP.unwish {D : Ends} {f : Flow} {s' : Shared} (h : SP (X.wish E) pins D f s') : SP X pins D f s' := by
  cases f with
  | next => obtain ⟨σ', H', I, q⟩ := h; exact ⟨σ', H', I.unwish, q⟩
  | brk => obtain ⟨σ', H', I, q⟩ := h; exact ⟨σ', H', I.unwish, q⟩
  | cont => obtain ⟨σ', H', I, q⟩ := h; exact ⟨σ', H', I.unwish, q⟩
  | ret u => obtain ⟨v, σ', H', I, r, q⟩ := h; exact ⟨v, σ', H', I.unwish, r, q⟩
theorem PSs.nox {st : List Stmt} {t : TS} (h : PSs X.nox st t) : PSs X st t := fun pins s σ H D I hw =>
  wpAny_mono (h pins s σ H D (I.wish _) hw) (fun _ _ q => q.unwish) fun _ _ z => False.elim z
end
section
variable {X : Cx} {st : Stmt} {rest : List Stmt} {t u : TS} {e : Expr} {te : TE} {pos : Pos}
def tNext : TS := fun D σ H => D.nx σ H
def tSeq (t u : TS) : TS := fun D σ H => t { D with nx := u D } σ H
theorem pss_nil : PSs X [] tNext := fun _ _ σ H _ I h => wpAny_execs_nil ⟨σ, H, I, h⟩
theorem pss_cons (h1 : PS X st t) (h2 : PSs X rest u) : PSs X (st :: rest) (tSeq t u) := by
  intro pins s σ H D I h
  refine wpAny_execs_cons (thn (h1 pins s σ H { D with nx := u D } I h) fun f s1 q => ?_)
  cases f with
  | next =>
    obtain ⟨σ', H', I', q⟩ := q
    exact h2 pins s1 σ' H' D I' q
  | ret v => exact q
  | brk => exact q
  | cont => exact q
theorem pss_one (h1 : PS X st t) : PSs X [st] t := by
  intro pins s σ H D I h
  refine wpAny_execs_cons (thn (h1 pins s σ H D I h) fun f s1 q => ?_)
  cases f with
  | next => exact wpAny_execs_nil q
  | ret v => exact q
  | brk => exact q
  | cont => exact q
/-- in a def's body nothing is shown -/
theorem Inv.quiet {pins : List (Addr × Obj)} {σ : St} {H : Hp} {s : Shared} (I : Inv X pins σ H s) : interactive X.env = false := by simp [interactive, I.ok.kind]
/-- an expression whose value is dropped -/
def tDrop (te : TE) : TS := fun D σ H => te σ H fun _ H1 => D.nx σ H1
theorem ps_expr (he : PE X e te) (hs : swapsWith e none pos.line X.env = pure false := by rfl) : PS X (.Expr e pos) (tDrop te) := by
  intro pins s σ H D I h
  exact wpAny_Expr_any (thn (he pins s σ H _ I h) fun v s1 ⟨x, H1, I1, r1, q1⟩ => ⟨σ, H1, I1, q1⟩) I.quiet hs
def tRet (te : TE) : TS := fun D σ H => te σ H D.rt
theorem ps_ret (he : PE X e te) : PS X (.Return (some e) pos) (tRet te) := by
  intro pins s σ H D I h
  exact wpAny_Return_some (thn (he pins s σ H _ I h) fun v s1 ⟨x, H1, I1, r1, q1⟩ => ⟨x, σ, H1, I1, r1, q1⟩)
def tIfS (c : TT) (t u : TS) : TS := fun D σ H => c σ H fun b H1 => if b = true then t D σ H1 else u D σ H1
theorem ps_if {c : Expr} {a b : List Stmt} {tc : TT} (hc : PT X c tc) (ha : PSs X a t) (hb : PSs X b u) : PS X (.If c a b pos) (tIfS tc t u) := by
  intro pins s σ H D I h
  refine wpAny_If (thn (hc pins s σ H _ I h) fun d s1 ⟨H1, I1, q1⟩ => ?_)
  cases d with
  | true => exact ha pins s1 σ H1 D I1 q1
  | false => exact hb pins s1 σ H1 D I1 q1
end
abbrev TG := V → St → Hp → (St → Hp → Prop) → Prop
abbrev TGs := List V → St → Hp → (St → Hp → Prop) → Prop
def PG (X : Cx) (target : Expr) (t : TG) : Prop :=
  ∀ (pins : List (Addr × Obj)) (s : Shared) (σ : St) (H : Hp) (v : V) (u : Value) (Q : St → Hp → Prop), Inv X pins σ H s → RelV v u → t v σ H Q →
    wpAny (model X.prog X.w) X.A (assign target X.env u) (fun _ s' => ∃ σ' H', Inv X pins σ' H' s' ∧ Q σ' H') X.xe s
/-- several targets, one after another -/
def PGs (X : Cx) (ts : List Expr) (t : TGs) : Prop :=
  ∀ (pins : List (Addr × Obj)) (s : Shared) (σ : St) (H : Hp) (vs : List V) (us : List Value) (Q : St → Hp → Prop), Inv X pins σ H s → Vals vs us → t vs σ H Q →
    wpAny (model X.prog X.w) X.A (assignInOrder ((assignEach ts X.env).map (·.2)) us) (fun _ s' => ∃ σ' H', Inv X pins σ' H' s' ∧ Q σ' H') X.xe s
section
variable {X : Cx} {pos : Pos}
def gName (i : Nat) : TG := fun v σ H Q => Q (σ.set i (some v)) H
theorem pg_name {i : Nat} {x : Str} (hN : X.N.Nodup) (hi : X.N[i]? = some x) (hx : Loc X.env.scope x) (hf : X.fn x = true ∨ X.env.scope.names.lookup x = some .local := by first | exact .inl rfl | exact .inr rfl | assumption) : PG X (.Name x pos) (gName i) := by
  intro pins s σ H v u Q I r h
  exact wpAny_assign_Name (store_ok I hN hi hx r (fun s' I' => ⟨_, H, I', h⟩) hf)
def gNil : TGs := fun vs σ H Q => vs = [] ∧ Q σ H
def gCons (t : TG) (u : TGs) : TGs := fun vs σ H Q => ∃ v r, vs = v :: r ∧ t v σ H fun σ' H' => u r σ' H' Q
theorem pgs_nil : PGs X [] gNil := by
  intro pins s σ H vs us Q I r h
  obtain ⟨e, h⟩ := h
  subst e
  cases r
  exact assignInOrder_nil ⟨σ, H, I, h⟩
theorem pgs_cons {e : Expr} {es : List Expr} {t : TG} {u : TGs} (h1 : PG X e t) (h2 : PGs X es u)
    (hs : (assignEach (e :: es) X.env).map (·.2) = assign e X.env :: (assignEach es X.env).map (·.2) := by rfl) : PGs X (e :: es) (gCons t u) := by
  intro pins s σ H vs us Q I r h
  obtain ⟨v, vr, e1, h⟩ := h
  subst e1
  cases r with
  | cons r rr =>
    rw [hs]
    refine assignInOrder_cons (thn (h1 pins s σ H _ _ _ I r h) fun _ s1 ⟨σ1, H1, I1, q1⟩ => ?_)
    exact h2 pins s1 σ1 H1 _ _ Q I1 rr q1
/-- (a, b, ..) = a tuple of that length -/
def gTup (K : PySem.W.Frag) (n : Nat) (t : TGs) : TG := fun v σ H Q => ∃ a xs, v = .ref a ∧ SqT K H a xs ∧ xs.length = n ∧ t xs σ H Q
theorem pg_tup {es : List Expr} {k : Nat} {t : TGs} {n : Nat} (hc : X.calm = true) (h : PGs X es t)
    (hn : (assignEach es X.env).length = n := by rfl) (hst : (assignEach es X.env).findIdx? (·.1) = none := by rfl) : PG X (.Tuple es k pos) (gTup X.K n t) := by
  intro pins s σ H v u Q I r hw
  obtain ⟨a, xs, e1, hq, hl, hw⟩ := hw
  subst e1
  cases r
  obtain ⟨its, rv, ht, hz⟩ := I.tuple hq
  refine assign_Tuple_tuple (I.ok.hd hc) ht (by simp [hn, ← hl, rv.length]) hst fun h' hx => ?_
  have I1 : Inv X pins σ H { s with heap := h' } := I.kept (t' := s.toks) fun b o e => hx b o (Nat.ne_of_lt (Heap.lt_size e)) e
  exact h pins _ σ H xs _ Q I1 (by simpa using rv) hw
/-- target = value -/
def tAsg (te : TE) (g : TG) : TS := fun D σ H => te σ H fun x H1 => g x σ H1 D.nx
/-- name = value -/
theorem ps_set {i : Nat} {x : Str} {e : Expr} {te : TE} {pos' : Pos} (hN : X.N.Nodup) (hi : X.N[i]? = some x) (hx : Loc X.env.scope x) (he : PE X e te) (hs : swapsWith e (some (.Name x pos')) pos.line X.env = pure false := by rfl) (hf : X.fn x = true ∨ X.env.scope.names.lookup x = some .local := by first | exact .inl rfl | exact .inr rfl | assumption) :
    PS X (.Assign [.Name x pos'] e pos) (tAsg te (gName i)) := by
  intro pins s σ H D I h
  refine wpAny_Assign_Name (thn (he pins s σ H _ I h) fun v s1 ⟨y, H1, I1, r1, q1⟩ => ?_) hs
  exact store_ok I1 hN hi hx r1 (fun s2 I2 => ⟨_, H1, I2, q1⟩) hf
end
section
variable {X : Cx} {pos : Pos}
/-- the invariant W with its measure -/
def tWhile (c : TT) (tb : TS) : TS := fun D σ H => ∃ W : Nat → St → Hp → Prop, (∃ m, W m σ H) ∧ ∀ m σ H, W m σ H →
  c σ H fun b H1 => if b = true then ∃ N : St → Hp → Prop, (∀ σ' H', N σ' H' → ∃ m', m' < m ∧ W m' σ' H') ∧ tb { D with nx := N, ct := N, bk := D.nx } σ H1 else D.nx σ H1
theorem ps_while {c : Expr} {body : List Stmt} {tc : TT} {tb : TS} (hp : PassesOwn (model X.prog X.w) X.A X.env X.xe) (hc : PT X c tc) (hb : PSs X body tb) : PS X (.While c body [] pos) (tWhile tc tb) := by
  intro pins s σ H D I h
  obtain ⟨W, ⟨m0, w0⟩, turn⟩ := h
  refine wpAny_While (codeAny_whileLoop (fun n s' => ∃ σ' H', Inv X pins σ' H' s' ∧ W n σ' H') ?_ m0 ⟨σ, H, I, w0⟩)
  rintro n s1 ⟨σ1, H1, I1, w1⟩
  refine wpAny_passesOwn hp (thn (hc pins s1 σ1 H1 _ I1 (turn n σ1 H1 w1)) fun b s2 ⟨H2, I2, q2⟩ => ?_)
  cases b with
  | true =>
    obtain ⟨N, hN, q2⟩ := q2
    rw [if_pos rfl]
    refine wpAny_passesOwn hp (thn (hb pins s2 σ1 H2 _ I2 q2) fun f s3 q3 => ?_)
    cases f with
    | next =>
      obtain ⟨σ3, H3, I3, n3⟩ := q3
      obtain ⟨m', hm, w3⟩ := hN σ3 H3 n3
      exact ⟨m', hm, σ3, H3, I3, w3⟩
    | cont =>
      obtain ⟨σ3, H3, I3, n3⟩ := q3
      obtain ⟨m', hm, w3⟩ := hN σ3 H3 n3
      exact ⟨m', hm, σ3, H3, I3, w3⟩
    | brk => exact q3
    | ret v => exact q3
  | false =>
    rw [if_neg Bool.false_ne_true]
    exact wpAny_execs_nil ⟨σ1, H2, I2, q2⟩
end
/-- at turn i: it yields x (the heap may grow), or it stops -/
structure It where
  go : Nat → Hp → Prop
  yld : Nat → Hp → V → Hp → Prop
  stop : Nat → Hp → Prop
/-- the iterator's own objects may turn: they are not the frame's, not pinned, younger than the entry (or a comprehension's own) -/
def FpOk (X : Cx) (pins : List (Addr × Obj)) (H : Hp) (b : Addr) : Prop :=
  H b = none ∧ b ≠ X.env.locals ∧ b ∉ X.fs ∧ (b ∈ X.ex ∨ X.s_0.heap.objs.size ≤ b) ∧ (∀ x c, X.env.cells.lookup x = some c → c ≠ b) ∧ ∀ p ∈ X.pn ++ pins, p.1 ≠ b
theorem Inv.fpOk {X : Cx} {pins : List (Addr × Obj)} {σ : St} {H H' : Hp} {s : Shared} {b : Addr} (I : Inv X pins σ H s) (hb : s.heap.objs.size ≤ b) (hn : H' b = none) : FpOk X pins H' b := by
  refine ⟨hn, Nat.ne_of_gt (Nat.lt_of_lt_of_le I.lt hb), I.nofs hb, .inr (Nat.le_trans I.sz hb), fun x c e z => ?_, fun p hp z => ?_⟩
  · obtain ⟨v, q⟩ := I.cell x c e
    exact absurd (Nat.lt_of_lt_of_le q.lt (by rw [z]; exact hb)) (Nat.lt_irrefl _)
  · exact absurd (Nat.lt_of_lt_of_le (Heap.lt_size (I.pin p hp).1) (by rw [z]; exact hb)) (Nat.lt_irrefl _)
structure Turn (P : Program) (w : World) (K : PySem.W.Frag) (tg : Expr) (J : It) (fp : List Addr) (it : Addr) (tn : Nat → Heap → Prop) : Prop where
  mem : it ∈ fp
  obj : ∀ i h, tn i h → ∀ b ∈ fp, ∃ o, h.get? b = some o ∧ ∀ v, o.data ≠ .cell v
  keep : ∀ i h h', tn i h → (∀ b ∈ fp, ∀ o, h.get? b = some o → h'.get? b = some o) → tn i h'
  item : ∀ (X : Cx), X.prog = P → X.w = w → X.K = K → X.calm = true → ∀ (i : Nat) (pins : List (Addr × Obj)) (s : Shared) (σ : St) (H : Hp) (E : Value → Shared → Prop), Inv X pins σ H s → (∀ b ∈ fp, FpOk X pins H b) → tn i s.heap → J.go i H →
    wpAny (model P w) X.A (pyNext (.ref it)) (fun r s1 => ∃ u, r = some u ∧
      wpAny (model P w) X.A (letOwnedTupleGo tg (.ref it) u) (fun _ s2 => ∃ x H', Inv X pins σ H' s2 ∧ RelV x u ∧ J.yld i H x H' ∧ tn (i + 1) s2.heap ∧ ∀ b ∈ fp, H' b = none) E s1) E s
  done : ∀ (X : Cx), X.prog = P → X.w = w → X.K = K → X.calm = true → ∀ (i : Nat) (pins : List (Addr × Obj)) (s : Shared) (σ : St) (H : Hp) (E : Value → Shared → Prop), Inv X pins σ H s → (∀ b ∈ fp, FpOk X pins H b) → tn i s.heap → J.stop i H →
    wpAny (model P w) X.A (pyNext (.ref it)) (fun r s1 => r = none ∧ Inv X pins σ H s1) E s
  self : ∀ (A : Around) (i : Nat) (s : Shared) (Q : Value → Shared → Prop) (E : Value → Shared → Prop), tn i s.heap → Q (.ref it) s → wpAny (model P w) A (pyIter (.ref it)) Q E s
abbrev TI := St → Hp → (It → Hp → Prop) → Prop
/-- an iterator has come -/
def PIE (X : Cx) (pins : List (Addr × Obj)) (σ : St) (tg : Expr) (R : It → Hp → Prop) (itv : Value) (s2 : Shared) : Prop :=
  ∃ (it : Addr) (fp : List Addr) (tn : Nat → Heap → Prop) (J : It) (H' : Hp), itv = .ref it ∧ Inv X pins σ H' s2 ∧ Turn X.prog X.w X.K tg J fp it tn ∧ tn 0 s2.heap ∧ (∀ b ∈ fp, FpOk X pins H' b) ∧ R J H'
def PI (X : Cx) (tg iter : Expr) (wi : TI) : Prop :=
  ∀ (pins : List (Addr × Obj)) (s : Shared) (σ : St) (H : Hp) (R : It → Hp → Prop), Inv X pins σ H s → wi σ H R →
    wpAny (model X.prog X.w) X.A (eval iter X.env) (fun v s1 => wpAny (model X.prog X.w) X.A (pyIter v) (PIE X pins σ tg R) X.xe s1) X.xe s
/-- the step ahead of the store is nothing for an iterator that keeps no tuple -/
theorem go_of {M : Model} {A : Around} {E : Value → Shared → Prop} {s : Shared} {tg : Expr} {it : Addr} {u : Value} {o : Obj} {n : String} {vs : Array Value} {Q : Unit → Shared → Prop} (ho : s.heap.get? it = some o) (hc : o.cls = .type n) (hd : o.data = .fields vs)
    (hn : ["enumerate", "zip", "dict_itemiterator", "dict_reverseitemiterator", "odict_iterator", "itertools.zip_longest", "itertools.pairwise"].contains n = false) (hQ : Q () s) : wpAny M A (letOwnedTupleGo tg (.ref it) u) Q E s := by
  unfold letOwnedTupleGo
  cases tg <;> first
    | exact wpAny_pure hQ
    | (cases u <;> first
        | exact wpAny_pure hQ
        | (refine wpAny_bind (wpAny_load ho ?_)
           rw [hc, hd]
           show wpAny M A (if (["enumerate", "zip", "dict_itemiterator", "dict_reverseitemiterator", "odict_iterator", "itertools.zip_longest", "itertools.pairwise"].contains n && vs[0]? == some (rawInt _)) = true then _ else _) Q E s
           rw [if_neg (by intro h; rw [hn, Bool.false_and] at h; cases h)]
           exact wpAny_pure hQ))
/-- the list at a, as it stands at each turn (a loop may append to it) -/
def Itl (K : PySem.W.Frag) (a : Addr) : It :=
  ⟨fun i H => ∃ xs x, SqL K H a xs ∧ xs[i]? = some x, fun i H x H' => H' = H ∧ ∀ xs, SqL K H a xs → xs[i]? = some x, fun i H => ∃ xs, SqL K H a xs ∧ xs.length ≤ i⟩
/-- lo, lo + 1, .. (n of them) -/
def Itr (lo : Int) (n : Nat) : It := ⟨fun i _ => i < n, fun i H x H' => H' = H ∧ x = .int (lo + i), fun i _ => n ≤ i⟩
theorem turn_list {P : Program} {w : World} {K : PySem.W.Frag} {tg : Expr} (a it : Addr) : Turn P w K tg (Itl K a) [it] it (fun i h => h.IsListIter it a i) where
  mem := by simp
  obj := fun i h st b hb => by
    have e : b = it := by simpa using hb
    subst e
    obtain ⟨o, e, c, d⟩ := st
    exact ⟨o, e, fun v z => by rw [d] at z; cases z⟩
  keep := fun i h h' st k => st.at fun o e => k it (by simp) o e
  item := by
    intro X hP hw hK hc i pins s σ H E I hf st hg
    subst hP hw hK
    obtain ⟨xs, x, hq, hx⟩ := hg
    obtain ⟨its, rv, p, hz⟩ := I.list hq
    obtain ⟨u, hu, ru⟩ := rv.get hx
    obtain ⟨f0, f1, f2, f3, f4, f5⟩ := hf it (by simp)
    refine wpAny_pyNext_list_item st p.isList (x := u) (by simpa using hu) fun h' st' sb => ?_
    have I1 : Inv X pins σ H { s with heap := h' } := I.turned (t' := s.toks) (fun b o hb e => (sb.2 b hb).trans e) f0 f1 f3 f4 f5
    obtain ⟨o, e, c, d⟩ := id st'
    exact ⟨u, rfl, go_of (s := { s with heap := h' }) e c d (by decide) ⟨x, H, I1, ru, ⟨rfl, fun ys hy => by rw [I.list_inj hy hq]; exact hx⟩, st', fun b hb => (hf b hb).1⟩⟩
  done := by
    intro X hP hw hK hc i pins s σ H E I hf st hg
    subst hP hw hK
    obtain ⟨xs, hq, hx⟩ := hg
    obtain ⟨its, rv, p, hz⟩ := I.list hq
    obtain ⟨f0, f1, f2, f3, f4, f5⟩ := hf it (by simp)
    have hl := rv.length
    exact wpAny_pyNext_list_end (I.ok.hd hc) st p.isList (by simp; omega) fun h' eb => ⟨rfl, I.turned (t' := s.toks) (fun b o hb e => eb b o hb e) f0 f1 f3 f4 f5⟩
  self := fun _ _ _ _ _ st h => wpAny_pyIter_listiter st h
theorem turn_range {P : Program} {w : World} {K : PySem.W.Frag} {tg : Expr} (it : Addr) (lo : Int) (n : Nat) : Turn P w K tg (Itr lo n) [it] it (fun i h => IsRangeIter h it (lo + (i : Nat) * 1) ((n : Int) - (i : Nat)) 1) where
  mem := by simp
  obj := fun i h st b hb => by
    have e : b = it := by simpa using hb
    subst e
    exact ⟨_, st, fun v z => by
      have z' : Data.fields _ = Data.cell v := z
      cases z'⟩
  keep := fun i h h' st k => k it (by simp) _ st
  item := by
    intro X hP hw hK hc i pins s σ H E I hf st hg
    subst hP hw hK
    obtain ⟨f0, f1, f2, f3, f4, f5⟩ := hf it (by simp)
    have W := Walks.range (prog := X.prog) (w := X.w) (I.ok.hd hc) it lo 1 n
    refine W.item i s _ _ hg st fun v h' tk hv st' kk => ?_
    obtain ⟨t, rfl⟩ := hv
    have I1 : Inv X pins σ H { s with heap := h', toks := tk } := I.turned (fun b o hb e => kk b o (by simpa using hb) e) f0 f1 f3 f4 f5
    refine ⟨_, rfl, go_of (s := { s with heap := h', toks := tk }) (n := "range_iterator") st' rfl rfl (by decide) ⟨.int (lo + i), H, I1, ⟨t, ?_⟩, ⟨rfl, rfl⟩, st', fun b hb => (hf b hb).1⟩⟩
    rw [Int.mul_one]
  done := by
    intro X hP hw hK hc i pins s σ H E I hf st hg
    subst hP hw hK
    obtain ⟨f0, f1, f2, f3, f4, f5⟩ := hf it (by simp)
    exact wpAny_pyNext_range_end (I.ok.hd hc) st (by have : n ≤ i := hg; omega) fun h' eb => ⟨rfl, I.turned (t' := s.toks) (fun b o hb e => eb b o hb e) f0 f1 f3 f4 f5⟩
  self := fun _ _ _ _ _ st h => wpAny_pyIter_rangeiter st h
end L2
namespace L2
open PySem PySem.Spec PyProof.Rows
section
variable {X : Cx} {tg : Expr}
def iList (K : PySem.W.Frag) (tl : TE) : TI := fun σ H R => tl σ H fun x H1 => ∃ a, x = .ref a ∧ (∃ xs, SqL K H1 a xs) ∧ R (Itl K a) H1
theorem pi_list {l : Expr} {tl : TE} (hl : PE X l tl) : PI X tg l (iList X.K tl) := by
  intro pins s σ H R I h
  refine thn (hl pins s σ H _ I h) fun v s1 ⟨x, H1, I1, r1, q1⟩ => ?_
  obtain ⟨a, e, ⟨xs, hq⟩, q⟩ := q1
  subst e
  cases r1
  obtain ⟨its, rv, p, hz⟩ := I1.list hq
  refine wpAny_pyIter_list p.isList ?_
  refine ⟨s1.heap.objs.size, [s1.heap.objs.size], _, _, H1, rfl, I1.kept (t' := s1.toks) fun b o e => Heap.get?_push_of_some _ e, turn_list a _, ⟨_, Heap.get?_push_size _ rfl, rfl, rfl⟩, fun b hb => ?_, q⟩
  have e : b = s1.heap.objs.size := by simpa using hb
  subst e
  exact I1.fpOk (Nat.le_refl _) (I1.hok.fresh (Nat.le_refl _))
/-- a range object just made, walked -/
theorem range_it {pins : List (Addr × Obj)} {σ : St} {H : Hp} {s : Shared} {R : It → Hp → Prop} {E : Value → Shared → Prop} {lo hi : Int} {t u v : Tok} {tk : Nat} (I : Inv X pins σ H s) (h1 : -(2 ^ 62) ≤ lo) (h2 : lo < 2 ^ 62) (h3 : -(2 ^ 62) ≤ hi) (h4 : hi < 2 ^ 62)
    (q : R (Itr lo (hi - lo).toNat) H) : wpAny (model X.prog X.w) X.A (pyIter (.ref s.heap.objs.size)) (PIE X pins σ tg R) E { s with heap := s.heap.push { cls := .type "range", data := .fields #[.int lo t, .int hi u, .int 1 v] }, toks := tk } := by
  refine wpAny_pyIter_range (IsRange.new ..) (small_one h1 h2 h3 h4) ?_
  have I1 : Inv X pins σ H { s with heap := s.heap.push { cls := .type "range", data := .fields #[.int lo t, .int hi u, .int 1 v] }, toks := tk } := I.kept fun b o e => Heap.get?_push_of_some _ e
  refine ⟨(s.heap.push { cls := .type "range", data := .fields #[.int lo t, .int hi u, .int 1 v] }).objs.size, [(s.heap.push { cls := .type "range", data := .fields #[.int lo t, .int hi u, .int 1 v] }).objs.size], _, _, H, rfl,
    I1.kept (t' := tk) fun b o e => Heap.get?_push_of_some _ e, turn_range _ lo (hi - lo).toNat, ?_, fun b hb => ?_, q⟩
  · have e1 : lo + ((0 : Nat) : Int) * 1 = lo := by simp
    have e2 : (((hi - lo).toNat : Nat) : Int) - ((0 : Nat) : Int) = Builtin.Range.rangeSize lo hi 1 := by rw [rangeSize_one]; split <;> omega
    show IsRangeIter _ _ (lo + ((0 : Nat) : Int) * 1) ((((hi - lo).toNat : Nat) : Int) - ((0 : Nat) : Int)) 1
    rw [e1, e2]
    exact Heap.get?_push_size _ rfl
  · have e : b = (s.heap.push { cls := .type "range", data := .fields #[.int lo t, .int hi u, .int 1 v] }).objs.size := by simpa using hb
    subst e
    exact I1.fpOk (Nat.le_refl _) (I1.hok.fresh (Nat.le_refl _))
def iRng1 (ta : TA) : TI := fun σ H R => ta σ H fun vs H1 => ∃ j : Int, vs = [.int j] ∧ -(2 ^ 62) ≤ j ∧ j < 2 ^ 62 ∧ R (Itr 0 j.toNat) H1
def iRng2 (ta : TA) : TI := fun σ H R => ta σ H fun vs H1 => ∃ i j : Int, vs = [.int i, .int j] ∧ (-(2 ^ 62) ≤ i ∧ i < 2 ^ 62 ∧ -(2 ^ 62) ≤ j ∧ j < 2 ^ 62) ∧ R (Itr i (j - i).toNat) H1
theorem pi_range1 {a : Expr} {ta : TA} {p pos : Pos} (hg : Gl X "range") (hm : X.mg "range" = none) (ha : PA X [a] ta) (hs : starEach [a] X.env = [(false, eval a X.env)] := by rfl) : PI X tg (.Call (.Name "range" p) [a] [] pos) (iRng1 ta) := by
  intro pins s σ H R I h
  refine Call_ (ld_blt I hg hm boot_range (PyProof.Rows.callWith_type1 (thn (ha pos pins s σ H _ I h) fun us s1 ⟨vs, H1, I1, r1, q1⟩ => ?_) hs rfl))
  obtain ⟨j, e, q1, q2, q⟩ := q1
  subst e
  cases r1 with
  | cons r rr =>
    cases rr
    obtain ⟨t, rfl⟩ := r
    exact call_range_1 (range_it I1 (by omega) (by omega) q1 q2 (by simpa using q))
theorem pi_range2 {a b : Expr} {ta : TA} {p pos : Pos} (hg : Gl X "range") (hm : X.mg "range" = none) (ha : PA X [a, b] ta) (hs : starEach [a, b] X.env = [(false, eval a X.env), (false, eval b X.env)] := by rfl) (hs2 : starEach [b] X.env = [(false, eval b X.env)] := by rfl) :
    PI X tg (.Call (.Name "range" p) [a, b] [] pos) (iRng2 ta) := by
  intro pins s σ H R I h
  refine Call_ (ld_blt I hg hm boot_range (PyProof.Rows.callWith_type1 (thn (ha pos pins s σ H _ I h) fun us s1 ⟨vs, H1, I1, r1, q1⟩ => ?_) (by rw [hs, hs2]) (by rw [hs2]; rfl)))
  obtain ⟨i, j, e, ⟨q1, q2, q3, q4⟩, q⟩ := q1
  subst e
  cases r1 with
  | cons r rr =>
    cases rr with
    | cons r' rr =>
      cases rr
      obtain ⟨t, rfl⟩ := r
      obtain ⟨t', rfl⟩ := r'
      exact call_range_2 (range_it I1 q1 q2 q3 q4 q)
/-- W: the invariant by the turn and a measure; N: what the body is to reach -/
def tFor (wi : TI) (g : TG) (tb : TS) : TS := fun D σ H => wi σ H fun J H1 => ∃ W : Nat → Nat → St → Hp → Prop, (∃ m, W 0 m σ H1) ∧ ∀ i m σ H, W i m σ H →
  (J.stop i H ∧ D.nx σ H) ∨ (J.go i H ∧ ∃ N : St → Hp → Prop, (∀ σ' H', N σ' H' → ∃ m', m' < m ∧ W (i + 1) m' σ' H') ∧ ∀ x H', J.yld i H x H' → g x σ H' fun σ2 H2 => tb { D with nx := N, ct := N, bk := D.nx } σ2 H2)
/-- the records at fp as they stand -/
def pinsAt (fp : List Addr) (h : Heap) : List (Addr × Obj) := fp.filterMap fun b => (h.get? b).map fun o => (b, o)
theorem mem_pinsAt {fp : List Addr} {h : Heap} {b : Addr} {o : Obj} (hb : b ∈ fp) (e : h.get? b = some o) : (b, o) ∈ pinsAt fp h := List.mem_filterMap.mpr ⟨b, hb, by rw [e]; rfl⟩
theorem of_pinsAt {fp : List Addr} {h : Heap} {p : Addr × Obj} (hp : p ∈ pinsAt fp h) : p.1 ∈ fp ∧ h.get? p.1 = some p.2 := by
  obtain ⟨b, hb, e⟩ := List.mem_filterMap.mp hp
  cases q : h.get? b with
  | none => rw [q] at e; cases e
  | some o =>
    rw [q] at e
    have e' : (b, o) = p := Option.some.inj e
    subst e'
    exact ⟨hb, q⟩
theorem Inv.pinned {pins : List (Addr × Obj)} {σ : St} {H : Hp} {s : Shared} {fp : List Addr} (I : Inv X pins σ H s) (hf : ∀ b ∈ fp, FpOk X pins H b) (ho : ∀ b ∈ fp, ∃ o, s.heap.get? b = some o ∧ ∀ v, o.data ≠ .cell v) : Inv X (pins ++ pinsAt fp s.heap) σ H s :=
  I.pins_of fun p hp => (List.mem_append.mp hp).elim (fun z => I.pin p (List.mem_append_right _ z)) fun z => by
    obtain ⟨hb, e⟩ := of_pinsAt z
    obtain ⟨f0, f1, f2, _⟩ := hf p.1 hb
    obtain ⟨o, e', d⟩ := ho p.1 hb
    rw [e] at e'; cases e'
    exact ⟨e, f0, f1, f2, d⟩
theorem Inv.unpinned {pins pl : List (Addr × Obj)} {σ : St} {H : Hp} {s : Shared} (I : Inv X (pins ++ pl) σ H s) : Inv X pins σ H s := I.pins_of fun p hp => I.pin p (List.mem_append_right _ (List.mem_append_left _ hp))
theorem ps_for {iter : Expr} {body : List Stmt} {wi : TI} {g : TG} {tb : TS} {pos : Pos} (hp : PassesOwn (model X.prog X.w) X.A X.env X.xe) (hc : X.calm = true) (hi : PI X tg iter wi) (hg : PG X tg g) (hb : PSs X body tb)
    (hs : ∀ x, foldedSetIterable iter X.env x = pure x := by intro _; rfl) : PS X (.For tg iter body [] pos) (tFor wi g tb) := by
  intro pins s σ H D I h
  refine wpAny_For (thn (hi pins s σ H _ I h) fun v s1 h1 => thn h1 fun itv s2 h2 => ?_) hs
  obtain ⟨it, fp, tn, J, H2, e, I2, T, st2, f2, W, ⟨m0, w0⟩, turn⟩ := h2
  subst e
  have stat : ∀ {H' : Hp}, (∀ b ∈ fp, H' b = none) → ∀ b ∈ fp, FpOk X pins H' b := fun hn b hb => ⟨hn b hb, (f2 b hb).2⟩
  refine codeAny_forLoop_any (fun n s' => ∃ i σ' H', Inv X pins σ' H' s' ∧ tn i s'.heap ∧ (∀ b ∈ fp, H' b = none) ∧ W i n σ' H') ?_ m0 ⟨0, σ, H2, I2, st2, fun b hb => (f2 b hb).1, w0⟩
  rintro n s3 ⟨i, σ3, H3, I3, st3, fr3, w3⟩
  rcases turn i n σ3 H3 w3 with ⟨stop, qn⟩ | ⟨go, N, hN, step⟩
  · refine wpAny_passesOwn hp (thn (T.done X rfl rfl rfl hc i pins s3 σ3 H3 X.xe I3 (stat fr3) st3 stop) fun r s4 ⟨hr, I4⟩ => ?_)
    subst hr
    exact wpAny_execs_nil ⟨σ3, H3, I4, qn⟩
  · refine wpAny_passesOwn hp (thn (T.item X rfl rfl rfl hc i pins s3 σ3 H3 X.xe I3 (stat fr3) st3 go) fun r s4 ⟨u, hr, h4⟩ => ?_)
    subst hr
    refine wpAny_passesOwn hp (thn h4 fun _ s5 ⟨x, H5, I5, r5, y5, st5, fr5⟩ => ?_)
    have I5' := I5.pinned (stat fr5) (T.obj _ _ st5)
    refine wpAny_passesOwn hp (thn (hg _ s5 σ3 H5 x u _ I5' r5 (step x H5 y5)) fun _ s6 ⟨σ6, H6, I6, q6⟩ => ?_)
    refine wpAny_passesOwn hp (thn (hb _ s6 σ6 H6 _ I6 q6) fun f s7 q7 => ?_)
    have again : ∀ {σ7 : St} {H7 : Hp}, Inv X (pins ++ pinsAt fp s5.heap) σ7 H7 s7 → N σ7 H7 → ∃ m, m < n ∧ ∃ i σ' H', Inv X pins σ' H' s7 ∧ tn i s7.heap ∧ (∀ b ∈ fp, H' b = none) ∧ W i m σ' H' := fun {σ7 H7} I7 n7 => by
      obtain ⟨m', hm, w7⟩ := hN σ7 H7 n7
      refine ⟨m', hm, i + 1, σ7, H7, I7.unpinned, T.keep _ _ _ st5 fun b hb o e => (I7.pin (b, o) (List.mem_append_right _ (List.mem_append_right _ (mem_pinsAt hb e)))).1, fun b hb => ?_, w7⟩
      obtain ⟨o, e, d⟩ := T.obj _ _ st5 b hb
      exact (I7.pin (b, o) (List.mem_append_right _ (List.mem_append_right _ (mem_pinsAt hb e)))).2.1
    cases f with
    | next => obtain ⟨σ7, H7, I7, n7⟩ := q7; exact again I7 n7
    | cont => obtain ⟨σ7, H7, I7, n7⟩ := q7; exact again I7 n7
    | brk => obtain ⟨σ7, H7, I7, q7⟩ := q7; exact ⟨σ7, H7, I7.unpinned, q7⟩
    | ret v => obtain ⟨x7, σ7, H7, I7, r7, q7⟩ := q7; exact ⟨x7, σ7, H7, I7.unpinned, r7, q7⟩
end
/-- over a list that the body leaves as it is -/
theorem for_list {K : PySem.W.Frag} {a : Addr} {xs : List V} {g : TG} {tb : TS} {D : Ends} {σ : St} {H : Hp} (Pv : Nat → St → Hp → Prop) (h0 : Pv 0 σ H) (hl : ∀ i σ H, i ≤ xs.length → Pv i σ H → SqL K H a xs)
    (hs : ∀ i x σ H, xs[i]? = some x → Pv i σ H → g x σ H fun σ2 H2 => tb { D with nx := Pv (i + 1), ct := Pv (i + 1), bk := D.nx } σ2 H2) (hd : ∀ σ H, Pv xs.length σ H → D.nx σ H) :
    ∃ W : Nat → Nat → St → Hp → Prop, (∃ m, W 0 m σ H) ∧ ∀ i m σ H, W i m σ H →
      ((Itl K a).stop i H ∧ D.nx σ H) ∨ ((Itl K a).go i H ∧ ∃ N : St → Hp → Prop, (∀ σ' H', N σ' H' → ∃ m', m' < m ∧ W (i + 1) m' σ' H') ∧ ∀ x H', (Itl K a).yld i H x H' → g x σ H' fun σ2 H2 => tb { D with nx := N, ct := N, bk := D.nx } σ2 H2) := by
  refine ⟨fun i m σ H => m = xs.length - i ∧ i ≤ xs.length ∧ Pv i σ H, ⟨xs.length, by simp, Nat.zero_le _, h0⟩, ?_⟩
  rintro i m σ H ⟨rfl, hi, p⟩
  have q := hl i σ H hi p
  by_cases hlt : i < xs.length
  · refine .inr ⟨⟨xs, xs[i], q, by simp [hlt]⟩, Pv (i + 1), fun σ' H' p' => ⟨xs.length - (i + 1), by omega, rfl, hlt, p'⟩, fun x H' y => ?_⟩
    obtain ⟨e, y⟩ := y
    subst e
    exact hs i x σ _ (y xs q) p
  · have e : i = xs.length := by omega
    subst e
    exact .inl ⟨⟨xs, q, Nat.le_refl _⟩, hd σ H p⟩
theorem for_range {lo : Int} {n : Nat} {g : TG} {tb : TS} {D : Ends} {σ : St} {H : Hp} (Pv : Nat → St → Hp → Prop) (h0 : Pv 0 σ H)
    (hs : ∀ i σ H, i < n → Pv i σ H → g (.int (lo + i)) σ H fun σ2 H2 => tb { D with nx := Pv (i + 1), ct := Pv (i + 1), bk := D.nx } σ2 H2) (hd : ∀ σ H, Pv n σ H → D.nx σ H) :
    ∃ W : Nat → Nat → St → Hp → Prop, (∃ m, W 0 m σ H) ∧ ∀ i m σ H, W i m σ H →
      ((Itr lo n).stop i H ∧ D.nx σ H) ∨ ((Itr lo n).go i H ∧ ∃ N : St → Hp → Prop, (∀ σ' H', N σ' H' → ∃ m', m' < m ∧ W (i + 1) m' σ' H') ∧ ∀ x H', (Itr lo n).yld i H x H' → g x σ H' fun σ2 H2 => tb { D with nx := N, ct := N, bk := D.nx } σ2 H2) := by
  refine ⟨fun i m σ H => m = n - i ∧ i ≤ n ∧ Pv i σ H, ⟨n, by simp, Nat.zero_le _, h0⟩, ?_⟩
  rintro i m σ H ⟨rfl, hi, p⟩
  by_cases hlt : i < n
  · refine .inr ⟨hlt, Pv (i + 1), fun σ' H' p' => ⟨n - (i + 1), by omega, rfl, hlt, p'⟩, fun x H' y => ?_⟩
    obtain ⟨e, y⟩ := y
    subst e y
    exact hs i σ _ hlt p
  · have e : i = n := by omega
    subst e
    exact .inl ⟨Nat.le_refl _, hd σ H p⟩
end L2
namespace L2
open PySem PySem.Spec PyProof.Rows
abbrev R2 := V → V → Hp → VK → Prop
/-- a two-place operation on values: f is binaryOp op, inplaceOp op or compareOp op -/
def OpR (X : Cx) (f : Value → Value → Sem Value) (r : R2) : Prop :=
  ∀ (pins : List (Addr × Obj)) (s : Shared) (σ : St) (H : Hp) (x y : V) (v u : Value) (Q : VK), Inv X pins σ H s → RelV x v → RelV y u → r x y H Q →
    wpAny (model X.prog X.w) X.A (f v u) (EP X pins σ Q) X.xe s
/-- a one-place operation -/
def UnR (X : Cx) (f : Value → Sem Value) (r : V → Hp → VK → Prop) : Prop :=
  ∀ (pins : List (Addr × Obj)) (s : Shared) (σ : St) (H : Hp) (x : V) (v : Value) (Q : VK), Inv X pins σ H s → RelV x v → r x H Q →
    wpAny (model X.prog X.w) X.A (f v) (EP X pins σ Q) X.xe s
/-- a call of a value that is known (a builtin, a type) with values -/
def CallR (X : Cx) (f : Value) (r : List V → Hp → VK → Prop) : Prop :=
  ∀ (pins : List (Addr × Obj)) (s : Shared) (σ : St) (H : Hp) (xs : List V) (us : List Value) (Q : VK), Inv X pins σ H s → Vals xs us → r xs H Q →
    wpAny (model X.prog X.w) X.A (call f us) (EP X pins σ Q) X.xe s
/-- a value's truth -/
def TruR (X : Cx) (r : V → Hp → (Bool → Hp → Prop) → Prop) : Prop :=
  ∀ (pins : List (Addr × Obj)) (s : Shared) (σ : St) (H : Hp) (x : V) (v : Value) (Q : Bool → Hp → Prop), Inv X pins σ H s → RelV x v → r x H Q →
    wpAny (model X.prog X.w) X.A (truthy v) (TP X pins σ Q) X.xe s
def tOp (r : R2) (ta tb : TE) : TE := fun σ H Q => ta σ H fun x H1 => tb σ H1 fun y H2 => r x y H2 Q
def tUn (r : V → Hp → VK → Prop) (ta : TE) : TE := fun σ H Q => ta σ H fun x H1 => r x H1 Q
def rI0 (g : Int → Int → V) : R2 := fun x y H Q => ∃ i j, x = .int i ∧ y = .int j ∧ Q (g i j) H
def rU (g : Int → V) : V → Hp → VK → Prop := fun x H Q => ∃ i, x = .int i ∧ Q (g i) H
section
variable {X : Cx} {a b c : Expr} {ta tb tc : TE} {pos : Pos}
theorem binT (ha : PE X a ta) (hb : PE X b tb) {pins : List (Addr × Obj)} {s : Shared} {σ : St} {H : Hp} {R : V → V → Hp → Prop} (I : Inv X pins σ H s)
    (h : ta σ H fun x H1 => tb σ H1 fun y H2 => R x y H2) {Q : Value → Shared → Prop} {f : Value → Value → Sem Value}
    (hf : ∀ v u s2 x y H2, Inv X pins σ H2 s2 → RelV x v → RelV y u → R x y H2 → wpAny (model X.prog X.w) X.A (f v u) Q X.xe s2) :
    wpAny (model X.prog X.w) X.A (eval a X.env) (fun v s₁ => wpAny (model X.prog X.w) X.A (eval b X.env) (fun u s₂ => wpAny (model X.prog X.w) X.A (f v u) Q X.xe s₂) X.xe s₁) X.xe s := by
  refine thn (ha pins s σ H _ I h) fun v s1 ⟨x, H1, I1, r1, q1⟩ => ?_
  refine thn (hb pins s1 σ H1 _ I1 q1) fun u s2 ⟨y, H2, I2, r2, q2⟩ => ?_
  exact hf v u s2 x y H2 I2 r1 r2 q2
theorem pe_op {op : Operator} {r : R2} (ho : OpR X (binaryOp op) r) (ha : PE X a ta) (hb : PE X b tb) : PE X (.BinOp a op b pos) (tOp r ta tb) := by
  intro pins s σ H Q I h
  exact wpAny_BinOp (binT ha hb I h fun v u s2 x y H2 I2 rx ry q => ho pins s2 σ H2 x y v u Q I2 rx ry q)
theorem pe_un {op : UnaryOp} {r : V → Hp → VK → Prop} (ho : UnR X (unaryOp op) r) (ha : PE X a ta) : PE X (.UnaryOp op a pos) (tUn r ta) := by
  intro pins s σ H Q I h
  exact UnaryOp_ (thn (ha pins s σ H _ I h) fun v s1 ⟨x, H1, I1, r1, q1⟩ => ho pins s1 σ H1 x v Q I1 r1 q1)
theorem opI0 {f : Value → Value → Sem Value} {g : Int → Int → Int}
    (rule : ∀ (i j : Int) (t u : Tok) (s : Shared) (Q : Value → Shared → Prop) (E : Value → Shared → Prop), Q (.int (g i j) s.toks) { s with toks := s.toks + 1 } → wpAny (model X.prog X.w) X.A (f (.int i t) (.int j u)) Q E s) :
    OpR X f (rI0 fun i j => .int (g i j)) := by
  intro pins s σ H x y v u Q I rx ry h
  obtain ⟨i, j, rfl, rfl, q⟩ := h
  obtain ⟨t, rfl⟩ := rx
  obtain ⟨t', rfl⟩ := ry
  exact rule i j t t' s _ _ ⟨.int (g i j), H, I.tok _, ⟨_, rfl⟩, q⟩
theorem opB0 {f : Value → Value → Sem Value} {g : Int → Int → Bool}
    (rule : ∀ (i j : Int) (t u : Tok) (s : Shared) (Q : Value → Shared → Prop) (E : Value → Shared → Prop), Q (.bool (g i j)) s → wpAny (model X.prog X.w) X.A (f (.int i t) (.int j u)) Q E s) :
    OpR X f (rI0 fun i j => .bl (g i j)) := by
  intro pins s σ H x y v u Q I rx ry h
  obtain ⟨i, j, rfl, rfl, q⟩ := h
  obtain ⟨t, rfl⟩ := rx
  obtain ⟨t', rfl⟩ := ry
  exact rule i j t t' s _ _ ⟨.bl (g i j), H, I, rfl, q⟩
theorem op_add : OpR X (binaryOp .Add) (rI0 fun i j => .int (i + j)) := opI0 fun _ _ _ _ _ _ _ q => add_int q
theorem op_sub : OpR X (binaryOp .Sub) (rI0 fun i j => .int (i - j)) := opI0 fun _ _ _ _ _ _ _ q => sub_int q
theorem unI {f : Value → Sem Value} {g : Int → Int}
    (rule : ∀ (i : Int) (t : Tok) (s : Shared) (Q : Value → Shared → Prop) (E : Value → Shared → Prop), Q (.int (g i) s.toks) { s with toks := s.toks + 1 } → wpAny (model X.prog X.w) X.A (f (.int i t)) Q E s) :
    UnR X f (rU fun i => .int (g i)) := by
  intro pins s σ H x v Q I rx h
  obtain ⟨i, rfl, q⟩ := h
  obtain ⟨t, rfl⟩ := rx
  exact rule i t s _ _ ⟨.int (g i), H, I.tok _, ⟨_, rfl⟩, q⟩
theorem un_neg : UnR X (unaryOp .USub) (rU fun i => .int (-i)) := unI fun _ _ _ _ _ q => neg_int q
end
/-- the scalars that == tells apart as data does -/
def scal : V → V → Bool
  | .non, .non => true | .non, .int _ => true | .int _, .non => true | .non, .bl _ => true | .bl _, .non => true | .non, .str _ => true | .str _, .non => true
  | .int _, .int _ => true | .bl _, .bl _ => true | .str _, .str _ => true | .byt _, .byt _ => true
  | .int _, .str _ => true | .str _, .int _ => true | .bl _, .str _ => true | .str _, .bl _ => true
  | _, _ => false
def rEq : R2 := fun x y H Q => scal x y = true ∧ Q (.bl (decide (x = y))) H
def rNe : R2 := fun x y H Q => scal x y = true ∧ Q (.bl (!decide (x = y))) H
theorem dec_int {i j : Int} : decide (V.int i = V.int j) = (i == j) := by
  rw [Bool.eq_iff_iff]
  simp
theorem dec_bl {i j : Bool} : decide (V.bl i = V.bl j) = (i == j) := by
  rw [Bool.eq_iff_iff]
  simp
theorem dec_str {i j : Str} : decide (V.str i = V.str j) = (i == j) := by
  rw [Bool.eq_iff_iff]
  simp
theorem dec_byt {i j : Array UInt8} : decide (V.byt i = V.byt j) = (i.toList == j.toList) := by
  rw [Bool.eq_iff_iff]
  cases i
  cases j
  simp
section
variable {X : Cx} {a b c : Expr} {ta tb tc : TE} {pos : Pos}
theorem fin_bl {pins : List (Addr × Obj)} {σ : St} {H : Hp} {s : Shared} {Q : VK} {k k' : Bool} (I : Inv X pins σ H s) (q : Q (.bl k) H) (e : k = k') : EP X pins σ Q (.bool k') s := by
  subst e
  exact ⟨.bl k, H, I, rfl, q⟩
theorem op_eq : OpR X (compareOp .Eq) rEq := by
  intro pins s σ H x y v u Q I rx ry h
  obtain ⟨hs, q⟩ := h
  cases x with
  | non =>
    cases rx
    cases y with
    | non => cases ry; exact PySem.EqNone.eq_none_none (fin_bl I q (by simp))
    | bl j => cases ry; exact PySem.EqNone.eq_none_bool (fin_bl I q (by simp))
    | int j => obtain ⟨t', rfl⟩ := ry; exact PySem.EqNone.eq_none_int (fin_bl I q (by simp))
    | str j => obtain ⟨t', rfl⟩ := ry; exact PySem.EqNone.eq_none_str (fin_bl I q (by simp))
    | _ => exact absurd (show false = true from hs) Bool.false_ne_true
  | bl i =>
    cases rx
    cases y with
    | non => cases ry; exact PySem.EqNone.eq_bool_none (fin_bl I q (by simp))
    | bl j => cases ry; exact eq_bool (fin_bl I q dec_bl)
    | str j => obtain ⟨t', rfl⟩ := ry; exact PySem.EqMixed.eq_bool_str (fin_bl I q (by simp))
    | _ => exact absurd (show false = true from hs) Bool.false_ne_true
  | int i =>
    obtain ⟨t, rfl⟩ := rx
    cases y with
    | non => cases ry; exact PySem.EqNone.eq_int_none (fin_bl I q (by simp))
    | int j => obtain ⟨t', rfl⟩ := ry; exact eq_int (fin_bl I q dec_int)
    | str j => obtain ⟨t', rfl⟩ := ry; exact PySem.EqMixed.eq_int_str (fin_bl I q (by simp))
    | _ => exact absurd (show false = true from hs) Bool.false_ne_true
  | str i =>
    obtain ⟨t, rfl⟩ := rx
    cases y with
    | non => cases ry; exact PySem.EqNone.eq_str_none (fin_bl I q (by simp))
    | bl j => cases ry; exact PySem.EqMixed.eq_str_bool (fin_bl I q (by simp))
    | int j => obtain ⟨t', rfl⟩ := ry; exact PySem.EqMixed.eq_str_int (fin_bl I q (by simp))
    | str j => obtain ⟨t', rfl⟩ := ry; exact eq_str (fin_bl I q dec_str)
    | _ => exact absurd (show false = true from hs) Bool.false_ne_true
  | byt i =>
    obtain ⟨t, rfl⟩ := rx
    cases y with
    | byt j => obtain ⟨t', rfl⟩ := ry; exact PySem.W.eq_bytes (fin_bl I q dec_byt)
    | _ => exact absurd (show false = true from hs) Bool.false_ne_true
  | _ => cases y <;> exact absurd (show false = true from hs) Bool.false_ne_true
theorem op_ne : OpR X (compareOp .NotEq) rNe := by
  intro pins s σ H x y v u Q I rx ry h
  obtain ⟨hs, q⟩ := h
  cases x with
  | non =>
    cases rx
    cases y with
    | non => cases ry; exact PySem.EqNone.ne_none_none (fin_bl I q (by simp))
    | bl j => cases ry; exact PySem.EqNone.ne_none_bool (fin_bl I q (by simp))
    | int j => obtain ⟨t', rfl⟩ := ry; exact PySem.EqNone.ne_none_int (fin_bl I q (by simp))
    | str j => obtain ⟨t', rfl⟩ := ry; exact PySem.EqNone.ne_none_str (fin_bl I q (by simp))
    | _ => exact absurd (show false = true from hs) Bool.false_ne_true
  | bl i =>
    cases rx
    cases y with
    | non => cases ry; exact PySem.EqNone.ne_bool_none (fin_bl I q (by simp))
    | bl j => cases ry; exact ne_bool (fin_bl I q (congrArg not dec_bl))
    | str j => obtain ⟨t', rfl⟩ := ry; exact PySem.EqMixed.ne_bool_str (fin_bl I q (by simp))
    | _ => exact absurd (show false = true from hs) Bool.false_ne_true
  | int i =>
    obtain ⟨t, rfl⟩ := rx
    cases y with
    | non => cases ry; exact PySem.EqNone.ne_int_none (fin_bl I q (by simp))
    | int j => obtain ⟨t', rfl⟩ := ry; exact ne_int (fin_bl I q (congrArg not dec_int))
    | str j => obtain ⟨t', rfl⟩ := ry; exact PySem.EqMixed.ne_int_str (fin_bl I q (by simp))
    | _ => exact absurd (show false = true from hs) Bool.false_ne_true
  | str i =>
    obtain ⟨t, rfl⟩ := rx
    cases y with
    | non => cases ry; exact PySem.EqNone.ne_str_none (fin_bl I q (by simp))
    | bl j => cases ry; exact PySem.EqMixed.ne_str_bool (fin_bl I q (by simp))
    | int j => obtain ⟨t', rfl⟩ := ry; exact PySem.EqMixed.ne_str_int (fin_bl I q (by simp))
    | str j => obtain ⟨t', rfl⟩ := ry; exact ne_str (fin_bl I q (congrArg not dec_str))
    | _ => exact absurd (show false = true from hs) Bool.false_ne_true
  | byt i =>
    obtain ⟨t, rfl⟩ := rx
    cases y with
    | byt j => obtain ⟨t', rfl⟩ := ry; exact PySem.W.ne_bytes (fin_bl I q (congrArg not dec_byt))
    | _ => exact absurd (show false = true from hs) Bool.false_ne_true
  | _ => cases y <;> exact absurd (show false = true from hs) Bool.false_ne_true
theorem op_lt : OpR X (compareOp .Lt) (rI0 fun i j => .bl (decide (i < j))) := opB0 fun _ _ _ _ _ _ _ q => lt_int q
theorem op_gt : OpR X (compareOp .Gt) (rI0 fun i j => .bl (decide (j < i))) := opB0 fun _ _ _ _ _ _ _ q => gt_int q
theorem op_ge : OpR X (compareOp .GtE) (rI0 fun i j => .bl (decide (j ≤ i))) := opB0 fun _ _ _ _ _ _ _ q => ge_int q
/-- is None, is not None: the right side a value none -/
theorem op_isN : OpR X (compareOp .Is) (fun x y H Q => y = .non ∧ Q (.bl (decide (x = .non))) H) := by
  intro pins s σ H x y v u Q I rx ry h
  obtain ⟨rfl, q⟩ := h
  cases ry
  refine is_none_gen (fin_bl I q ?_)
  cases x <;> first
    | (cases rx; rfl)
    | (obtain ⟨t, rfl⟩ := rx; rfl)
theorem op_notN : OpR X (compareOp .IsNot) (fun x y H Q => y = .non ∧ Q (.bl (!decide (x = .non))) H) := by
  intro pins s σ H x y v u Q I rx ry h
  obtain ⟨rfl, q⟩ := h
  cases ry
  refine isnot_none_gen (fin_bl I q ?_)
  cases x <;> first
    | (cases rx; rfl)
    | (obtain ⟨t, rfl⟩ := rx; rfl)
theorem nomark (b : Expr) {op : CmpOp} (h : op ≠ .In := by decide) (h2 : op ≠ .NotIn := by decide) : behindInMarks op b = false := by
  have e1 : (op == CmpOp.In) = false := by cases op <;> first | rfl | exact absurd rfl h
  have e2 : (op == CmpOp.NotIn) = false := by cases op <;> first | rfl | exact absurd rfl h2
  cases b <;> simp [behindInMarks, e1, e2]
/-- a comparison as a value; hm: nomark b, or (for in, not in) by with_unfolding_all rfl -/
theorem pe_cmpR {op : CmpOp} {r : R2} (ho : OpR X (compareOp op) r) (ha : PE X a ta) (hb : PE X b tb) (hm : behindInMarks op b = false) : PE X (.Compare a [op] [b] pos) (tOp r ta tb) := by
  intro pins s σ H Q I h
  exact wpAny_Compare1 (binT ha hb I h fun v u s2 x y H2 I2 rx ry q => ho pins s2 σ H2 x y v u Q I2 rx ry q) hm
/-- a reading of a value as a test -/
def tTest (t : TE) : TT := fun σ H Q => t σ H fun x H' => ∃ k, x = .bl k ∧ Q k H'
theorem pt_cmpR {op : CmpOp} {r : R2} (ho : OpR X (compareOp op) r) (ha : PE X a ta) (hb : PE X b tb) (hm : behindInMarks op b = false) : PT X (.Compare a [op] [b] pos) (tTest (tOp r ta tb)) := by
  intro pins s σ H Q I h
  refine wpAny_isTrue_Compare1 (thn (ha pins s σ H _ I h) fun v s1 ⟨x, H1, I1, r1, q1⟩ => thn (hb pins s1 σ H1 _ I1 q1) fun u s2 ⟨y, H2, I2, r2, q2⟩ =>
    thn (ho pins s2 σ H2 x y v u _ I2 r1 r2 q2) fun c s3 ⟨z, H3, I3, r3, k, e, q3⟩ => ?_) hm
  subst e
  cases r3
  exact wpAny_truthy_bool ⟨H3, I3, q3⟩
/-- a value's truth by the abstract heap -/
def TruV (K : PySem.W.Frag) (x : V) (H : Hp) (k : Bool) : Prop :=
  match x with
  | .non => k = false
  | .bl b => k = b
  | .int i => k = (i != 0)
  | .str y => y.length ≤ sizeLine ∧ k = ((y.length : Int) != 0)
  | .byt y => y.size ≤ sizeLine ∧ k = ((y.size : Int) != 0)
  | .ref p => (∃ xs, SqL K H p xs ∧ k = !xs.isEmpty) ∨ (∃ xs, SqT K H p xs ∧ k = !xs.isEmpty) ∨ ∃ kvs, H p = some (.dK kvs) ∧ k = !kvs.isEmpty
  | _ => False
theorem isEmpty_kv {κ : Type} {kvs : List (κ × V)} {vs : List (κ × Value)} (r : KV kvs vs) : (!vs.isEmpty) = !kvs.isEmpty := by
  cases r <;> rfl
theorem isEmpty_of {xs : List V} {its : List Value} (r : Vals xs its) : (!its.toArray.isEmpty) = !xs.isEmpty := by
  cases r <;> simp
theorem line63 : (sizeLine : Nat) < 2 ^ 63 := by rw [sizeLine_eq]; decide
theorem tru_ok : TruR X (fun x H Q => ∃ k, TruV X.K x H k ∧ Q k H) := by
  intro pins s σ H x v Q I rx h
  obtain ⟨k, e, q⟩ := h
  have hl := line63
  have hs : sizeLine = 16777216 := sizeLine_eq
  cases x with
  | non =>
    cases rx
    have e' : k = false := e
    subst e'
    exact truthy_none ⟨H, I, q⟩
  | bl b =>
    cases rx
    have e' : k = b := e
    subst e'
    exact wpAny_truthy_bool ⟨H, I, q⟩
  | int i =>
    obtain ⟨t, rfl⟩ := rx
    have e' : k = (i != 0) := e
    subst e'
    exact PySem.P.truthy_int ⟨H, I, q⟩
  | str y =>
    obtain ⟨t, rfl⟩ := rx
    obtain ⟨hy, e'⟩ : y.length ≤ sizeLine ∧ k = ((y.length : Int) != 0) := e
    subst e'
    exact PySem.P.truthy_str (by omega) ⟨H, I.tok _, q⟩
  | byt y =>
    obtain ⟨t, rfl⟩ := rx
    obtain ⟨hy, e'⟩ : y.size ≤ sizeLine ∧ k = ((y.size : Int) != 0) := e
    subst e'
    exact PySem.W.truthy_bytes (by omega) ⟨H, I.tok _, q⟩
  | ref p =>
    cases rx
    have e' : (∃ xs, SqL X.K H p xs ∧ k = !xs.isEmpty) ∨ (∃ xs, SqT X.K H p xs ∧ k = !xs.isEmpty) ∨ ∃ kvs, H p = some (.dK kvs) ∧ k = !kvs.isEmpty := e
    rcases e' with ⟨xs, hx, e'⟩ | ⟨xs, hx, e'⟩ | ⟨kvs, hx, e'⟩
    · subst e'
      obtain ⟨its, r, pl, hz⟩ := I.list hx
      have hlen := r.length
      exact wpAny_truthy_list pl.isList (by simp only [List.size_toArray]; omega) ⟨H, I.tok _, by rw [isEmpty_of r]; exact q⟩
    · subst e'
      obtain ⟨its, r, pl, hz⟩ := I.tuple hx
      have hlen := r.length
      exact truthy_tuple pl (by simp only [List.size_toArray]; omega) ⟨H, I.tok _, by rw [isEmpty_of r]; exact q⟩
    · subst e'
      obtain ⟨hz, hS, vs, r, m⟩ : kvs.length ≤ sizeLine ∧ (p == sysModules) = false ∧ ∃ vs, KV kvs vs ∧ s.heap.DictOf (mixKind X.prog X.w) p vs := I.hok p _ hx
      have hlen : kvs.length = vs.length := Paired.length r
      exact wpAny_truthy_dict hS m (by omega) ⟨H, I.tok _, by rw [isEmpty_kv r]; exact q⟩
  | _ => exact (show False from e).elim
/-- any expression whose test is its value's truth (a name, a call, a subscript, a field ..: he by fun _ => rfl) -/
theorem pt_truth (ha : PE X a ta) (he : ∀ whole, isTrue a X.env whole = (do let v ← whole; standAt a.pos; holding [v] (truthy v))) :
    PT X a (fun σ H Q => ta σ H fun x H' => ∃ k, TruV X.K x H' k ∧ Q k H') := by
  intro pins s σ H Q I h
  exact isTrue_plain (thn (ha pins s σ H _ I h) fun v s1 ⟨x, H1, I1, r1, q1⟩ => tru_ok pins s1 σ H1 x v Q I1 r1 q1) (he _)
theorem vals1 {x : V} {us : List Value} (r : Vals [x] us) : ∃ u, us = [u] ∧ RelV x u := by
  cases r with
  | cons r1 r2 => cases r2; exact ⟨_, rfl, r1⟩
theorem vals2 {x y : V} {us : List Value} (r : Vals [x, y] us) : ∃ u w', us = [u, w'] ∧ RelV x u ∧ RelV y w' := by
  cases r with
  | cons r1 r2 =>
    cases r2 with
    | cons r3 r4 => cases r4; exact ⟨_, _, rfl, r1, r3⟩
theorem call_max2 (hc : X.calm = true) : CallR X (.builtin "max") (fun xs H Q => ∃ i j, xs = [.int i, .int j] ∧ Q (.int (if j > i then j else i)) H) := by
  intro pins s σ H xs us Q I r h
  obtain ⟨i, j, rfl, q⟩ := h
  obtain ⟨u, w', rfl, ⟨t, rfl⟩, ⟨t', rfl⟩⟩ := vals2 r
  refine max_two_ints (I.ok.hd hc) fun h' tk k => ⟨_, H, I.kept k, ?_, q⟩
  by_cases hj : j > i
  · rw [if_pos hj, if_pos hj]; exact ⟨_, rfl⟩
  · rw [if_neg hj, if_neg hj]; exact ⟨_, rfl⟩
theorem call_min2 (hc : X.calm = true) : CallR X (.builtin "min") (fun xs H Q => ∃ i j, xs = [.int i, .int j] ∧ Q (.int (if j < i then j else i)) H) := by
  intro pins s σ H xs us Q I r h
  obtain ⟨i, j, rfl, q⟩ := h
  obtain ⟨u, w', rfl, ⟨t, rfl⟩, ⟨t', rfl⟩⟩ := vals2 r
  refine min_two_ints (I.ok.hd hc) fun h' tk k => ⟨_, H, I.kept k, ?_, q⟩
  by_cases hj : j < i
  · rw [if_pos hj, if_pos hj]; exact ⟨_, rfl⟩
  · rw [if_neg hj, if_neg hj]; exact ⟨_, rfl⟩
end
end L2
namespace L2
open PySem PySem.Spec PyProof.Rows
structure ObjM (h : Heap) (x dx C : Addr) (mA : Str → Option Value) : Prop where
  obj : h.get? x = some (PySem.W.instObj C dx)
  ns : h.Ns1 dx mA
  ne : dx ≠ x
theorem lookIn_ns {h : Heap} {dx : Addr} {mA : Str → Option Value} (n : h.Ns1 dx mA) : ∃ od, h.get? dx = some od ∧ ∀ name, PySem.W.lookIn name od = some (mA name) := by
  obtain ⟨o, es, ep, ho, hd, hk, _, hm⟩ := n
  refine ⟨o, ho, fun name => ?_⟩
  have e := hm name
  unfold nsFind findBy at e
  rw [← Array.find?_toList] at e
  unfold PySem.W.lookIn
  rw [hd]
  dsimp only
  split
  · rename_i y q
    rw [q] at e
    exact congrArg some e
  · rename_i q
    rw [q] at e
    have a : es.toList.any (·.refKey) = false := by
      rw [List.any_eq_false]
      intro y hy
      obtain ⟨z, t, hkey⟩ := hk y (Array.mem_toList_iff.mp hy)
      simp [DictEntry.refKey, hkey]
    have a' : ¬ es.toList.any (·.refKey) = true := by rw [a]; exact Bool.false_ne_true
    rw [if_neg a']
    exact congrArg some e
theorem ObjM.look {h : Heap} {x dx C : Addr} {mA : Str → Option Value} (I : ObjM h x dx C mA) : ∃ od, PySem.W.InstAt h x (PySem.W.instObj C dx) C (some od) ∧ ∀ name, PySem.W.lookIn name od = some (mA name) :=
  let ⟨od, ho, hl⟩ := lookIn_ns I.ns
  ⟨od, ⟨I.obj, rfl, rfl, ho⟩, hl⟩
section
variable {prog : Program} {w : World} {A : Around} {E : Value → Shared → Prop} {s : Shared} {K : PySem.W.Frag} {x dx C f : Addr} {mA : Str → Option Value} {name : Str} {v : Value}
theorem get_map {expr : Bool} {Q : Value → Shared → Prop} (X : K.In s.heap) (I : ObjM s.heap x dx C mA) (hg : PySem.W.plainGet K C name = true) (hh : PySem.W.hasDictIn K C = true)
    (ha : PySem.W.findIn K (.ref C) name = some none) (hv : mA name = some v) (hv' : PySem.W.handedIn v = true) (h : Q v { s with toks := s.toks + 1 }) :
    wpAny (model prog w) A (getAttr (.ref x) name expr) Q E s := by
  obtain ⟨od, J, hl⟩ := I.look
  exact PySem.W.get_value X J (PySem.W.plainGet_of hg).1 (PySem.W.findObj_own hh ha rfl (by rw [hl, hv])) hv' h
theorem get_meth {pl : Sem Bool} {Q : Value × List Value → Shared → Prop} (X : K.In s.heap) (I : ObjM s.heap x dx C mA) (hg : PySem.W.plainGet K C name = true)
    (hf : PySem.W.findIn K (.ref C) name = some (some (.ref f))) (ht : PySem.W.isFn K (.ref f) = true) (hv : mA name = none) (h : Q (.ref f, [.ref x]) s) :
    wpAny (model prog w) A (getMethod (.ref x) name pl) Q E s := by
  obtain ⟨od, J, hl⟩ := I.look
  exact PySem.W.method_fn X J (PySem.W.plainGet_of hg).1 (PySem.W.plainGet_of hg).2 hf (beq_iff_eq.mp ht) (by show (PySem.W.lookIn name od).map (·.isSome) = some false; rw [hl, hv]; rfl) h
theorem set_map {ns : List Str} {Q : Unit → Shared → Prop} (X : K.In s.heap) (I : ObjM s.heap x dx C mA)
    (hs : PySem.W.findIn K (.ref C) "__setattr__" = some (some (.builtin "object.__setattr__"))) (hp : PySem.W.plainOver K C = true) (ht : PySem.W.takerIn K C name = some none) (hh : PySem.W.hasDictIn K C = true)
    (hw : PySem.Within mA ns) (hsz : ns.length ≤ sizeLine)
    (h : ∀ h', ObjM h' x dx C (fun y => if y = name then some v else mA y) → Heap.SameBut dx s.heap h' → Q () { s with heap := h', toks := s.toks + 2 }) :
    wpAny (model prog w) A (setAttr (.ref x) name v) Q E s := by
  obtain ⟨od, J, hl⟩ := I.look
  refine PySem.W.set_plain X J hs (PySem.W.osa_open (s := { s with toks := s.toks + 1 }) (r := none) X J hp ht fun b => ?_)
  obtain ⟨cd, hc, hd'⟩ := PySem.W.any_some hh
  have hx : s.heap.get? x = some ⟨.ref C, some dx, .plain, #[]⟩ := I.obj
  refine wpAny_bind (wpAny_pure (wpAny_bind (wpAny_bind (wpAny_loadPart hx (wpAny_bind (PySem.W.Looks.here (s := { s with toks := s.toks + 1 }) (PySem.W.looks_clsIn X hc) ?_))))))
  rw [hd']
  refine wpAny_pure (a := some dx) (wpAny_bind (wpAny_pure (wpAny_bind ?_)))
  refine wpAny_nsSet1 (s := { s with toks := s.toks + 1 }) I.ns fun h' hn2 hs2 => ?_
  obtain ⟨oD, esD, epD, hoD, hdD, hcD⟩ := hn2.count (PySem.Within.cons name v hw)
  refine wpAny_bind (wpAny_lookBehind hoD (by rw [hdD]; exact pastItsLine_dict (Nat.le_trans hcD (by rw [List.length_cons]; omega))) ?_)
  exact wpAny_pure (h _ ⟨(hs2.2 _ (Ne.symm I.ne)).trans I.obj, hn2, I.ne⟩ hs2)
/-- C(..): the dict at the heap's end, the instance behind it; then its __init__ -/
theorem make_map {R : Result → Shared → Prop} {vs : List Value} {kw : List (Str × Value)} (X : K.In s.heap) (hm : PySem.W.makesIn K C = true)
    (hi : PySem.W.findIn K (.ref C) "__init__" = some (some (.ref f))) (hf : PySem.W.typeIn K (.ref f) = some (.type "function"))
    (h : codeAny (model prog w) (A.under (.builtin "type.__call__" ⟨.ref C :: vs, kw⟩)) (.call (.ref f) ⟨.ref (s.heap.objs.size + 1) :: vs, kw⟩) (PySem.W.InitBack (s.heap.objs.size + 1) R)
      { s with heap := (s.heap.push PySem.W.emptyDict).push (PySem.W.instObj C s.heap.objs.size) }) :
    codeAny (model prog w) A (.call (.ref C) ⟨vs, kw⟩) R s := by
  obtain ⟨hh, g, d, t, os⟩ := s
  exact PySem.W.make_core (PySem.W.makes_of X hm) (PySem.W.looks_findIn X hi) (fun self => PySem.W.bind_fn X self hf) (.inl rfl) h
end
def putF (f : Str) (v : V) : List (Str × V) → List (Str × V)
  | [] => [(f, v)]
  | (g, x) :: r => if g = f then (g, v) :: r else (g, x) :: putF f v r
theorem lookup_putF (f g : Str) (v : V) : ∀ fs : List (Str × V), (putF f v fs).lookup g = if g = f then some v else fs.lookup g
  | [] => by
    show List.lookup g [(f, v)] = _
    by_cases h : g = f
    · have hb : (g == f) = true := beq_iff_eq.mpr h
      simp only [List.lookup, hb, if_pos h]
    · have hb : (g == f) = false := beq_eq_false_iff_ne.mpr h
      simp only [List.lookup, hb, if_neg h]
  | (k, x) :: r => by
    have ih := lookup_putF f g v r
    rw [show putF f v ((k, x) :: r) = (if k = f then (k, v) :: r else (k, x) :: putF f v r) from rfl]
    by_cases hk : k = f
    · rw [if_pos hk]
      by_cases h : g = k
      · have hb : (g == k) = true := beq_iff_eq.mpr h
        simp only [List.lookup, hb, if_pos (h.trans hk)]
      · have hb : (g == k) = false := beq_eq_false_iff_ne.mpr h
        simp only [List.lookup, hb, if_neg (fun e : g = f => h (e.trans hk.symm))]
    · rw [if_neg hk]
      by_cases h : g = k
      · have hb : (g == k) = true := beq_iff_eq.mpr h
        simp only [List.lookup, hb, if_neg (fun e : g = f => hk (h.symm.trans e))]
      · have hb : (g == k) = false := beq_eq_false_iff_ne.mpr h
        simp only [List.lookup, hb]
        exact ih
theorem keys_putF (f : Str) (v : V) : ∀ fs : List (Str × V), f ∈ (putF f v fs).map (·.1) ∧ ∀ g, g ∈ fs.map (·.1) → g ∈ (putF f v fs).map (·.1)
  | [] => ⟨by simp [putF], fun g h => by simp at h⟩
  | (k, x) :: r => by
    obtain ⟨i1, i2⟩ := keys_putF f v r
    rw [show putF f v ((k, x) :: r) = (if k = f then (k, v) :: r else (k, x) :: putF f v r) from rfl]
    by_cases hk : k = f
    · rw [if_pos hk]
      subst hk
      exact ⟨by simp, fun g h => by simpa using h⟩
    · rw [if_neg hk]
      refine ⟨?_, fun g h => ?_⟩
      · rw [List.map_cons]
        exact List.mem_cons_of_mem _ i1
      · rw [List.map_cons] at h ⊢
        rcases List.mem_cons.mp h with e | e
        · exact List.mem_cons.mpr (.inl e)
        · exact List.mem_cons_of_mem _ (i2 g e)
theorem length_putF (f : Str) (v : V) : ∀ fs : List (Str × V), (putF f v fs).length ≤ fs.length + 1
  | [] => by simp [putF]
  | (k, x) :: r => by
    have ih := length_putF f v r
    rw [show putF f v ((k, x) :: r) = (if k = f then (k, v) :: r else (k, x) :: putF f v r) from rfl]
    by_cases hk : k = f
    · rw [if_pos hk, List.length_cons, List.length_cons]; omega
    · rw [if_neg hk, List.length_cons, List.length_cons]; omega
theorem RelO.some_of {v : V} {o : Option Value} (r : RelO (some v) o) : ∃ u, o = some u ∧ RelV v u := by
  cases o with
  | none => exact (show False from r).elim
  | some u => exact ⟨u, rfl, r⟩
theorem RelO.none_of {o : Option Value} (r : RelO none o) : o = none := by
  cases o with
  | none => rfl
  | some u => exact (show False from r).elim
theorem handed_of {v : V} {u : Value} (r : RelV v u) : PySem.W.handedIn u = true := by
  cases v with
  | non => cases (show u = Value.none from r); rfl
  | bl b => cases (show u = Value.bool b from r); rfl
  | int i => obtain ⟨t, e⟩ := (show ∃ t, u = Value.int i t from r); cases e; rfl
  | str x => obtain ⟨t, e⟩ := (show ∃ t, u = Value.str x t from r); cases e; rfl
  | byt b => obtain ⟨t, e⟩ := (show ∃ t, u = Value.bytes b t from r); cases e; rfl
  | flt b => obtain ⟨t, e⟩ := (show ∃ t, u = Value.float b t from r); cases e; rfl
  | ref a => cases (show u = Value.ref a from r); rfl
  | ty n => cases (show u = Value.type n from r); rfl
section
variable {P : Program} {w : World} {H H' : Hp} {h h' : Heap} {a C dx : Addr} {fs fs' : List (Str × V)}
theorem ins_get (hok : HOk P w H h) (e : H a = some (.ins C dx fs)) : ∃ mA, ObjM h a dx C mA ∧ (∀ f, RelO (fs.lookup f) (mA f)) ∧ PySem.Within mA (fs.map (·.1)) ∧ fs.length ≤ 1000 ∧ H dx = some (.own a) := by
  obtain ⟨d, z, ne, ob, mA, n, r, q⟩ := (show ObjOk P w H h a (.ins C dx fs) from hok a _ e)
  exact ⟨mA, ⟨ob, n, ne⟩, r, q, z, d⟩
end
structure Cls (K : PySem.W.Frag) (C : Addr) : Prop where
  pg : PySem.W.plainGet K C Str.empty = true
  hd : PySem.W.hasDictIn K C = true
  po : PySem.W.plainOver K C = true
  sa : PySem.W.findIn K (.ref C) "__setattr__" = some (some (.builtin "object.__setattr__"))
theorem Cls.get {K : PySem.W.Frag} {C : Addr} (c : Cls K C) (f : Str) : PySem.W.plainGet K C f = true := c.pg
/-- no class of it has the name -/
def NoAttr (K : PySem.W.Frag) (C : Addr) (f : Str) : Prop := PySem.W.findIn K (.ref C) f = some none
theorem NoAttr.taker {K : PySem.W.Frag} {C : Addr} {f : Str} (n : NoAttr K C f) : PySem.W.takerIn K C f = some none := by
  unfold PySem.W.takerIn
  rw [show PySem.W.findIn K (.ref C) f = some none from n]
  rfl
/-- a method: a plain def of the class or of one above it -/
structure Meth (K : PySem.W.Frag) (C : Addr) (m : Str) (f : Addr) : Prop where
  at_ : PySem.W.findIn K (.ref C) m = some (some (.ref f))
  fn : PySem.W.isFn K (.ref f) = true
  kp : PySem.W.keepIn K (.ref f) = true
section
variable {X : Cx} {pins : List (Addr × Obj)} {σ : St} {H : Hp} {s : Shared} {a C dx : Addr} {fs : List (Str × V)} {f : Str} {v : V} {A : Around} {E : Value → Shared → Prop}
theorem getattr_ok {b : Bool} {Q : Value → Shared → Prop} (I : Inv X pins σ H s) (e : H a = some (.ins C dx fs)) (c : Cls X.K C) (n : NoAttr X.K C f) (l : fs.lookup f = some v)
    (h : ∀ u s', Inv X pins σ H s' → RelV v u → Q u s') : wpAny (model X.prog X.w) A (getAttr (.ref a) f b) Q E s := by
  obtain ⟨mA, O, r, _, _, _⟩ := ins_get I.hok e
  obtain ⟨u, hu, ru⟩ := RelO.some_of (v := v) (o := mA f) (by rw [← l]; exact r f)
  exact get_map I.kIn O (c.get f) c.hd n hu (handed_of ru) (h u _ (I.tok _) ru)
theorem getmeth_ok {m : Str} {g : Addr} {pl : Sem Bool} {Q : Value × List Value → Shared → Prop} (I : Inv X pins σ H s) (e : H a = some (.ins C dx fs)) (c : Cls X.K C) (k : Meth X.K C m g) (l : fs.lookup m = none)
    (h : Q (.ref g, [.ref a]) s) : wpAny (model X.prog X.w) A (getMethod (.ref a) m pl) Q E s := by
  obtain ⟨mA, O, r, _, _, _⟩ := ins_get I.hok e
  have hn : mA m = none := RelO.none_of (by rw [← l]; exact r m)
  exact get_meth I.kIn O (c.get m) k.at_ k.fn hn h
theorem setattr_ok {y : V} {u : Value} {Q : Unit → Shared → Prop} (I : Inv X pins σ H s) (e : H a = some (.ins C dx fs)) (c : Cls X.K C) (n : NoAttr X.K C f) (hl : fs.length < 1000) (ry : RelV y u)
    (h : ∀ s', Inv X pins σ (upd H a (.ins C dx (putF f y fs))) s' → Q () s') : wpAny (model X.prog X.w) A (setAttr (.ref a) f u) Q E s := by
  obtain ⟨mA, O, r, wi, _, ho⟩ := ins_get I.hok e
  have hz : (fs.map (·.1)).length ≤ sizeLine := by rw [List.length_map, sizeLine_eq]; omega
  refine set_map I.kIn O c.sa c.po n.taker c.hd wi hz fun h' O' sb => h _ ?_
  have hd : ∃ o, h'.get? dx = some o := let ⟨o, _, _, e', _⟩ := O'.ns; ⟨o, e'⟩
  refine I.write (x := a) (e := dx) (by rw [e]; exact True.intro) (.inr ho) (fun b q hb z => (sb.2 b hb).trans z) hd ?_
  refine ⟨by rw [upd_ne O.ne]; exact ho, ?_, O.ne, O'.obj, _, O'.ns, fun g => ?_, fun g hg => ?_⟩
  · have := length_putF f y fs; omega
  · show RelO ((putF f y fs).lookup g) (if g = f then some u else mA g)
    rw [lookup_putF]
    by_cases q : g = f
    · rw [if_pos q, if_pos q]; exact ry
    · rw [if_neg q, if_neg q]; exact r g
  · by_cases q : g = f
    · rw [q]; exact (keys_putF f y fs).1
    · refine (keys_putF f y fs).2 g (wi g fun z => hg ?_)
      show (if g = f then some u else mA g) = none
      rw [if_neg q]; exact z
/-- a new instance, tracked, without attributes -/
theorem Inv.made (I : Inv X pins σ H s) : Inv X pins σ (upd (upd H s.heap.objs.size (.own (s.heap.objs.size + 1))) (s.heap.objs.size + 1) (.ins C s.heap.objs.size []))
    { s with heap := (s.heap.push PySem.W.emptyDict).push (PySem.W.instObj C s.heap.objs.size) } := by
  have e1 : (s.heap.push PySem.W.emptyDict).get? s.heap.objs.size = some PySem.W.emptyDict := Heap.get?_push_size s.heap rfl
  have e2 : ((s.heap.push PySem.W.emptyDict).push (PySem.W.instObj C s.heap.objs.size)).get? (s.heap.objs.size + 1) = some (PySem.W.instObj C s.heap.objs.size) := by
    have := Heap.get?_push_size (s.heap.push PySem.W.emptyDict) (o := PySem.W.instObj C s.heap.objs.size) rfl
    rwa [Heap.size_push] at this
  have e3 : (s.heap.push PySem.W.emptyDict).Ns s.heap.objs.size (fun _ => none) := ⟨PySem.W.emptyDict, #[], _, e1, rfl, (fun e he => absurd he (by simp)), fun _ => rfl⟩
  have I1 := I.laid (a := s.heap.objs.size) (o := .own (s.heap.objs.size + 1)) (h' := s.heap.push PySem.W.emptyDict) (t' := s.toks) (fun b u q => Heap.get?_push_of_some _ q) (Nat.le_refl _) ⟨_, e1⟩
  refine I1.laid (a := s.heap.objs.size + 1) (o := .ins C s.heap.objs.size []) (t' := s.toks) (fun b u q => Heap.get?_push_of_some _ q) (Nat.le_of_eq (Heap.size_push _ _)) ?_
  have ne : s.heap.objs.size ≠ s.heap.objs.size + 1 := Nat.ne_of_lt (Nat.lt_succ_self _)
  refine ⟨by rw [upd_ne ne, upd_same], Nat.zero_le _, ne, e2, fun _ => none, (Heap.Ns1.of_empty e3).at fun o q => Heap.get?_push_of_some _ q, fun _ => True.intro, fun y hy => absurd rfl hy⟩
/-- e.f where nothing but the object is asked: through attributeBase (super) and the last hold -/
theorem attr_of {prog : Program} {w : World} {env : Env} {e : Expr} {f : Str} {pos : Pos} {s : Shared} {Q : Value → Shared → Prop} (hb : attributeBase e f env (eval e env) = eval e env)
    (h : wpAny (model prog w) A (eval e env) (fun o s₁ => wpAny (model prog w) A (getAttr o f true) Q E s₁) E s) : wpAny (model prog w) A (eval (.Attribute e f pos) env) Q E s :=
  Attribute_any_ h (by rw [arm_eval_Attribute, hb])
end
/-- e.f, an attribute of the instance -/
def tFld (K : PySem.W.Frag) (ta : TE) (f : Str) : TE := fun σ H Q => ta σ H fun x H1 => ∃ a C dx fs v, x = .ref a ∧ H1 a = some (.ins C dx fs) ∧ Cls K C ∧ NoAttr K C f ∧ fs.lookup f = some v ∧ Q v H1
/-- e.f = value -/
def sFld (K : PySem.W.Frag) (ta tv : TE) (f : Str) : TS := fun D σ H => tv σ H fun y H1 => ta σ H1 fun x H2 => ∃ a C dx fs, x = .ref a ∧ H2 a = some (.ins C dx fs) ∧ Cls K C ∧ NoAttr K C f ∧ fs.length < 1000 ∧
  D.nx σ (upd H2 a (.ins C dx (putF f y fs)))
section
variable {X : Cx} {o e value : Expr} {f : Str} {pos pos' tpos : Pos} {ta tv : TE}
theorem pe_fld (he : PE X e ta) (hb : attributeBase e f X.env (eval e X.env) = eval e X.env) : PE X (.Attribute e f pos) (tFld X.K ta f) := by
  intro pins s σ H Q I h
  refine attr_of hb (thn (he pins s σ H _ I h) fun u s1 ⟨x, H1, I1, rx, a, C, dx, fs, v, ex, ea, c, n, l, q⟩ => ?_)
  subst ex
  obtain rfl : u = Value.ref a := rx
  exact getattr_ok I1 ea c n l fun u' s2 I2 ru => ⟨v, H1, I2, ru, q⟩
theorem ps_fld (ha : PE X o ta) (hv : PE X value tv) (hs : swapsWith value (some (.Attribute o f pos')) pos.line X.env = pure false) : PS X (.Assign [.Attribute o f pos'] value pos) (sFld X.K ta tv f) := by
  intro pins s σ H D I h
  refine plainObj_wpAny_Assign_Attribute (thn (hv pins s σ H _ I h) fun u s1 ⟨y, H1, I1, ry, q⟩ => thn (ha pins s1 σ H1 _ I1 q) fun ov s2 ⟨x, H2, I2, rx, a, C, dx, fs, ex, ea, c, n, l, q2⟩ => ?_) hs
  subst ex
  obtain rfl : ov = Value.ref a := rx
  exact setattr_ok I2 ea c n l ry fun s3 I3 => ⟨σ, _, I3, q2⟩
end
section
variable {X : Cx} {pins : List (Addr × Obj)} {σ : St} {H : Hp} {s : Shared} {A : Around} {E : Value → Shared → Prop} {Q : Value → Shared → Prop} {c : Value} {b : Bool}
end
end L2
namespace L2
open PySem PySem.Spec PyProof.Rows
structure Room (k : Nat) (A : Around) : Prop where
  hd : A.handled = none
  dp : A.depth + 3 * k + 5 < recursionLimit
  un : A.units + 16 * k + 200 < cLine
theorem Room.mono {j k : Nat} {A : Around} (r : Room k A) (h : j ≤ k) : Room j A := ⟨r.hd, by have := r.dp; omega, by have := r.un; omega⟩
theorem Room.deeper {k : Nat} {A : Around} (r : Room (k + 1) A) (env : Env) : Room k (A.deeper env) :=
  ⟨r.hd, by have := r.dp; show A.depth + 1 + 3 * k + 5 < _; omega, by have := r.un; show A.units + 3 + 16 * k + 200 < _; omega⟩
theorem make_depth {A : Around} {C : Addr} {us : List Value} {kw : List (Str × Value)} : (A.under (.builtin "type.__call__" ⟨.ref C :: us, kw⟩)).depth = A.depth + 1 := by
  first | rfl | simp [Around.under, Code.weight, Code.isCreation, Code.isGuard, Code.isCaller, Code.frames, Code.isFrame, guardIds]
theorem make_units {A : Around} {C : Addr} {us : List Value} {kw : List (Str × Value)} : (A.under (.builtin "type.__call__" ⟨.ref C :: us, kw⟩)).units = A.units + 1 := by
  first | rfl | simp [Around.under, Code.cUnits, Code.frames, Code.isFrame]
theorem Room.make {k : Nat} {A : Around} (r : Room (k + 1) A) (C : Addr) (us : List Value) (kw : List (Str × Value)) : Room k (A.under (.builtin "type.__call__" ⟨.ref C :: us, kw⟩)) :=
  ⟨r.hd, by have := r.dp; rw [make_depth]; omega, by have := r.un; rw [make_units]; omega⟩
theorem Room.depth {k : Nat} {A : Around} (r : Room k A) : A.depth < recursionLimit := by have := r.dp; omega
theorem Room.units {k : Nat} {A : Around} (r : Room k A) : A.units + 64 < cLine := by have := r.un; omega
def tNil : TA := fun _ H Q => Q [] H
def tCons (ta : TE) (tr : TA) : TA := fun σ H Q => ta σ H fun x H1 => tr σ H1 fun xs H2 => Q (x :: xs) H2
section
variable {X : Cx} {e : Expr} {es : List Expr} {te : TE} {t : TA} {pos : Pos}
theorem pa_nil : PA X [] tNil := fun _ _ _ _ H Q I h => Calls.spliced_nil ⟨[], H, I, .nil, h⟩
theorem pa_cons (ha : PE X e te) (hr : PA X es t) (hs : starEach (e :: es) X.env = (false, eval e X.env) :: starEach es X.env := by rfl) : PA X (e :: es) (tCons te t) := by
  intro pos pins s σ H Q I h
  rw [hs]
  show wpAny _ _ (spliced ((false, eval e X.env) :: backTo pos (starEach es X.env))) _ _ s
  refine Calls.spliced_cons (thn (ha pins s σ H _ I h) fun u s1 ⟨x, H1, I1, r1, q1⟩ => ?_)
  exact thn (hr pos pins s1 σ H1 _ I1 q1) fun us s2 ⟨xs, H2, I2, r2, q2⟩ => ⟨x :: xs, H2, I2, .cons r1 r2, q2⟩
/-- a tuple, a list of written items -/
def tTup (t : TA) : TE := fun σ H Q => t σ H fun xs H1 => xs.length ≤ sizeLine ∧ ∀ p, H1 p = none → Q (.ref p) (upd H1 p (.tup xs))
def tLst (t : TA) : TE := fun σ H Q => t σ H fun xs H1 => xs.length ≤ sizeLine ∧ ∀ p, H1 p = none → Q (.ref p) (upd H1 p (.lst xs))
theorem pe_tup {x1} (h : PA X es t) : PE X (.Tuple es x1 pos) (tTup t) := by
  intro pins s σ H Q I hq
  refine wpAny_Tuple_spliced (thn (h pos pins s σ H _ I hq) fun us s1 ⟨xs, H1, I1, r, z, q⟩ => ⟨by rw [← r.length]; exact z, ?_⟩)
  have hf : H1 s1.heap.objs.size = none := I1.hok.fresh (Nat.le_refl _)
  refine ⟨.ref s1.heap.objs.size, upd H1 s1.heap.objs.size (.tup xs), I1.laid (t' := s1.toks) (fun b u e => Heap.get?_push_of_some _ e) (Nat.le_refl _) ?_, rfl, q _ hf⟩
  exact ⟨z, us, r, ⟨_, Heap.get?_push_size _ rfl, rfl, _, rfl⟩⟩
theorem pe_lst (h : PA X es t) : PE X (.List es pos) (tLst t) := by
  intro pins s σ H Q I hq
  refine wpAny_List_spliced (thn (h pos pins s σ H _ I hq) fun us s1 ⟨xs, H1, I1, r, z, q⟩ => ⟨by rw [← r.length]; exact z, ?_⟩)
  have hf : H1 s1.heap.objs.size = none := I1.hok.fresh (Nat.le_refl _)
  refine ⟨.ref s1.heap.objs.size, upd H1 s1.heap.objs.size (.lst xs), I1.laid (t' := s1.toks) (fun b u e => Heap.get?_push_of_some _ e) (Nat.le_refl _) ?_, rfl, q _ hf⟩
  exact ⟨z, us, 0, r, Heap.get?_push_size _ rfl⟩
end
/-- a def's promise: the bound arguments in the parameters' order, the heap, the wanted end, the wanted exception -/
abbrev Sp := List V → Hp → VK → XK → Prop
/-- how an exception lies behind a call (file 08 gives it): the callers' frames, abstract heap and state ahead of the call, the wish, the exception, the state -/
abbrev CXT := List Env → Hp → Shared → XK → Value → Shared → Prop
/-- the state at a call -/
structure Env0 (P : Program) (w : World) (K : PySem.W.Frag) (mg : Str → Option Value) (base : Heap) (A : Around) (outer : List Env) (s : Shared) (H : Hp) : Prop where
  frames : A.frames = some outer
  mod : Mod K mg base
  bs : ∀ b o, base.get? b = some o → s.heap.get? b = some o ∧ H b = none
  bsz : base.objs.size ≤ s.heap.objs.size
  funs : s.heap.FunFrames base outer
  frf : ∀ b ∈ frs outer, H b = none
  hok : HOk P w H s.heap
  bare : AllBare s.gens
/-- a call's end -/
def CE (outer : List Env) (P : Program) (w : World) (H : Hp) (s : Shared) (Q : VK) (u : Value) (s' : Shared) : Prop :=
  ∃ v H', s'.os = s.os ∧ AllBare s'.gens ∧ Un (frs outer) [] H H' s.heap s'.heap ∧ HOk P w H' s'.heap ∧ RelV v u ∧ Q v H'
def CR (CX : CXT) (outer : List Env) (P : Program) (w : World) (H : Hp) (s : Shared) (Q : VK) (E : XK) (r : Result) (s' : Shared) : Prop :=
  match r with
  | .ok (.ret u) => CE outer P w H s Q u s'
  | .ok _ => False
  | .error e => CX outer H s E e s'
structure FnOk (P : Program) (w : World) (K : PySem.W.Frag) (mg : Str → Option Value) (base : Heap) (CX : CXT) (k : Nat) (f : Addr) (fd : FuncData) (ps : List Str) (sp : Sp) : Prop where
  len : ∀ vs H Q E, sp vs H Q E → vs.length = ps.length
  run : ∀ (A : Around) (outer : List Env) (s : Shared) (H : Hp) (args : Args) (us : List Value) (vs : List V) (Q : VK) (E : XK), Room k A → Env0 P w K mg base A outer s H → BindsTo s fd args (ps.zip us) → Vals vs us → sp vs H Q E →
    codeAny (model P w) A (.call (.ref f) args) (CR CX outer P w H s Q E) s
theorem Env0.make {P : Program} {w : World} {K : PySem.W.Frag} {mg : Str → Option Value} {base : Heap} {A : Around} {outer : List Env} {s : Shared} {H : Hp} (e : Env0 P w K mg base A outer s H) (C : Addr) (us : List Value) (kw : List (Str × Value)) :
    Env0 P w K mg base (A.under (.builtin "type.__call__" ⟨.ref C :: us, kw⟩)) outer s H := ⟨by first | exact e.frames | (simpa [Around.under, Code.envs, Code.isFrame, pushEnvs] using e.frames), e.mod, e.bs, e.bsz, e.funs, e.frf, e.hok, e.bare⟩
section
variable {X : Cx} {pins : List (Addr × Obj)} {σ : St} {H : Hp} {s s' : Shared}
/-- from a body: what a callee wants -/
theorem Inv.env0 (I : Inv X pins σ H s) : Env0 X.prog X.w X.K X.mg X.base X.A X.stack s H :=
  ⟨I.ok.frames, I.ok.mod, I.bs, Nat.le_trans I.ok.bsz I.sz, I.stack, I.stkFree, I.hok, I.bare⟩
/-- behind a call -/
theorem Inv.after {Q : VK} {u : Value} (I : Inv X pins σ H s) (h : CE X.stack X.prog X.w H s Q u s') : EP X pins σ Q u s' := by
  obtain ⟨v, H', os, bare, un, hok, r, q⟩ := h
  obtain ⟨hh, g, d, t, os'⟩ := s'
  obtain rfl : os' = s.os := os
  exact ⟨v, H', I.call (h' := hh) (g' := g) (d' := d) (t' := t) (ch := []) un hok bare (fun b z => absurd z (by simp)), r, q⟩
end
/-- f(..): the written arguments, then the defaults dvs; E: what is wanted of an exception -/
def tCall (sp : Sp) (dvs : List V) (E : XK) (t : TA) : TE := fun σ H Q => t σ H fun vs H1 => sp (vs ++ dvs) H1 Q E
/-- o.m(..) of an instance of the class at C -/
def tMeth (C : Addr) (m : Str) (sp : Sp) (dvs : List V) (E : XK) (ta : TE) (t : TA) : TE := fun σ H Q => ta σ H fun x H1 => ∃ a dx fs, x = .ref a ∧ H1 a = some (.ins C dx fs) ∧ fs.lookup m = none ∧
  t σ H1 fun vs H2 => sp (x :: (vs ++ dvs)) H2 Q E
/-- C(..): a new instance and its dict, then __init__ -/
def tMake (C : Addr) (sp : Sp) (dvs : List V) (E : XK) (t : TA) : TE := fun σ H Q => t σ H fun vs H1 => ∀ x dx, H1 x = none → H1 dx = none → dx ≠ x →
  sp (.ref x :: (vs ++ dvs)) (upd (upd H1 dx (.own x)) x (.ins C dx [])) (fun v H2 => v = .non ∧ Q (.ref x) H2) E
/-- how the parameters are bound: us the positional arguments, kw the keywords' values by name, ds the defaults that fill up -/
def Binds (K : PySem.W.Frag) (fd : FuncData) (ps : List Str) (ds : List Value) : Prop :=
  ∀ (s : Shared) (us : List Value), K.In s.heap → (us ++ ds).length = ps.length → BindsTo s fd ⟨us, []⟩ (ps.zip (us ++ ds))
/-- every parameter is given -/
theorem Binds.all {K : PySem.W.Frag} {fd : FuncData} {ps : List Str} (h : ∀ us : List Value, us.length = ps.length → bindArgs fd ⟨us, []⟩ = pure (ps.zip us)) : Binds K fd ps [] := fun s us _ hl => by
  rw [List.append_nil] at hl ⊢
  exact .of_eq (h us hl)
/-- an exception of a callee reaches what this body wants of exceptions -/
def Passes (CX : CXT) (X : Cx) (E : XK) : Prop := ∀ (pins : List (Addr × Obj)) (σ : St) (H : Hp) (s : Shared) (e : Value) (s' : Shared), Inv X pins σ H s → CX X.stack H s E e s' → X.xe e s'
section
variable {X : Cx} {CX : CXT} {k : Nat} {f C : Addr} {fd : FuncData} {ps : List Str} {sp : Sp} {dvs : List V} {ds : List Value} {E : XK} {x m : Str} {p pos apos : Pos} {e o : Expr} {es : List Expr} {ta : TE} {t : TA}
/-- the callee runs -/
theorem run_fn {pins : List (Addr × Obj)} {σ : St} {H : Hp} {s : Shared} {Q : VK} {us : List Value} {vs : List V} (F : FnOk X.prog X.w X.K X.mg X.base CX k f fd ps sp) (hr : Room k X.A) (hb : Binds X.K fd ps ds) (hd : Vals dvs ds) (hx : Passes CX X E)
    (I : Inv X pins σ H s) (r : Vals vs us) (h : sp (vs ++ dvs) H Q E) : wpAny (model X.prog X.w) X.A (call (.ref f) us) (EP X pins σ Q) X.xe s := by
  have r2 : Vals (vs ++ dvs) (us ++ ds) := r.append hd
  have hl : (us ++ ds).length = ps.length := by rw [← r2.length]; exact F.len _ _ _ _ h
  refine wpAny_call (codeAny_mono (F.run X.A X.stack s H ⟨us, []⟩ (us ++ ds) (vs ++ dvs) Q E hr I.env0 (hb s us I.kIn hl) r2 h) fun r s' hq => ?_)
  cases r with
  | error e => exact hx pins σ H s e s' I hq
  | ok fl =>
    cases fl with
    | ret u => exact I.after hq
    | next => exact False.elim hq
    | brk => exact False.elim hq
    | cont => exact False.elim hq
theorem pe_call (F : FnOk X.prog X.w X.K X.mg X.base CX k f fd ps sp) (hr : Room k X.A) (hg : Gl X x) (hm : X.mg x = some (.ref f)) (hk : PySem.W.keepIn X.K (.ref f) = true) (hb : Binds X.K fd ps ds) (hd : Vals dvs ds) (hx : Passes CX X E)
    (ha : PA X (e :: es) t) (hdb : (x == ("__debug__" : Str)) = false := by decide) (he : starEach (e :: es) X.env = (false, eval e X.env) :: starEach es X.env := by rfl) (hpl : (backTo pos (starEach es X.env)).any (·.1) = false := by rfl) :
    PE X (.Call (.Name x p) (e :: es) [] pos) (tCall sp dvs E t) := by
  intro pins s σ H Q I h
  refine wpAny_Call_Name_kw (ld_glob I hg hm ?_ hdb)
  refine PySem.W.callWith_K (h₀ := X.base) I.ok.mod.kin hk (thn (ha pos pins s σ H _ I h) fun us s1 ⟨vs, H1, I1, r, q⟩ => ⟨I1.kIn, ?_⟩) he hpl
  exact run_fn F hr hb hd hx I1 r q
/-- o.m(e, ..) -/
theorem pe_meth {pl : Sem Bool} (he : PE X o ta) (c : Cls X.K C) (hm : Meth X.K C m f) (F : FnOk X.prog X.w X.K X.mg X.base CX k f fd ps sp) (hr : Room k X.A) (hb : Binds X.K fd ps ds) (hd : Vals dvs ds) (hx : Passes CX X E) (ha : PA X (e :: es) t)
    (hst : starEach (e :: es) X.env = (false, eval e X.env) :: starEach es X.env := by rfl) (hpl : (backTo pos (starEach es X.env)).any (·.1) = false := by rfl)
    (ht : eval (.Call (.Attribute o m apos) (e :: es) [] pos) X.env = (do
      let ov ← eval o X.env
      standAt apos.atName
      let (f, first) ← holding [ov] (getMethod ov m pl)
      callWith pos f first (backTo pos (starEach (e :: es) X.env)) (backToKw pos (keywordEach [] X.env))) := by rfl) :
    PE X (.Call (.Attribute o m apos) (e :: es) [] pos) (tMeth C m sp dvs E ta t) := by
  intro pins s σ H Q I h
  refine PySem.W.methodCall_KW (pl := pl) (thn (he pins s σ H _ I h) fun u s1 ⟨x, H1, I1, rx, a, dx, fs, ex, ea, l, q⟩ => ?_) ht
  subst ex
  obtain rfl : u = Value.ref a := rx
  refine getmeth_ok I1 ea c hm l ?_
  refine PySem.W.callWith_K (first := [.ref a]) (h₀ := X.base) I.ok.mod.kin hm.kp (thn (ha pos pins s1 σ H1 _ I1 q) fun us s2 ⟨vs, H2, I2, r, q2⟩ => ⟨I2.kIn, ?_⟩) hst hpl
  exact run_fn (us := .ref a :: us) (vs := .ref a :: vs) F hr hb hd hx I2 (.cons rfl r) q2
/-- o.m() -/
theorem pe_meth0 {pl : Sem Bool} (he : PE X o ta) (c : Cls X.K C) (hm : Meth X.K C m f) (F : FnOk X.prog X.w X.K X.mg X.base CX k f fd ps sp) (hr : Room k X.A) (hb : Binds X.K fd ps ds) (hd : Vals dvs ds) (hx : Passes CX X E)
    (ht : eval (.Call (.Attribute o m apos) [] [] pos) X.env = (do
      let ov ← eval o X.env
      standAt apos.atName
      let (f, first) ← holding [ov] (getMethod ov m pl)
      callWith pos f first (backTo pos (starEach [] X.env)) (backToKw pos (keywordEach [] X.env))) := by rfl) :
    PE X (.Call (.Attribute o m apos) [] [] pos) (tMeth C m sp dvs E ta tNil) := by
  intro pins s σ H Q I h
  refine PySem.W.methodCall_KW (pl := pl) (thn (he pins s σ H _ I h) fun u s1 ⟨x, H1, I1, rx, a, dx, fs, ex, ea, l, q⟩ => ?_) ht
  subst ex
  obtain rfl : u = Value.ref a := rx
  refine getmeth_ok I1 ea c hm l ?_
  exact PySem.W.callWith_K0 (first := [.ref a]) I1.kIn hm.kp (run_fn (us := [.ref a]) (vs := [.ref a]) F hr hb hd hx I1 (.cons rfl .nil) q)
/-- what a class must have to be made -/
structure Mk (K : PySem.W.Frag) (C f : Addr) : Prop where
  makes : PySem.W.makesIn K C = true
  init : PySem.W.findIn K (.ref C) "__init__" = some (some (.ref f))
  fn : PySem.W.isFn K (.ref f) = true
  kp : PySem.W.keepIn K (.ref C) = true
theorem run_make {pins : List (Addr × Obj)} {σ : St} {H : Hp} {s : Shared} {Q : VK} {us : List Value} {vs : List V} (M : Mk X.K C f) (F : FnOk X.prog X.w X.K X.mg X.base CX k f fd ps sp) (hr : Room (k + 1) X.A) (hb : Binds X.K fd ps ds) (hd : Vals dvs ds)
    (hx : Passes CX X E) (I : Inv X pins σ H s) (r : Vals vs us)
    (h : ∀ x dx, H x = none → H dx = none → dx ≠ x → sp (.ref x :: (vs ++ dvs)) (upd (upd H dx (.own x)) x (.ins C dx [])) (fun v H2 => v = .non ∧ Q (.ref x) H2) E) :
    wpAny (model X.prog X.w) X.A (call (.ref C) us) (EP X pins σ Q) X.xe s := by
  have hq := h (s.heap.objs.size + 1) s.heap.objs.size (I.hok.fresh (Nat.le_succ _)) (I.hok.fresh (Nat.le_refl _)) (Nat.ne_of_lt (Nat.lt_succ_self _))
  have I2 := Inv.made (C := C) I
  have r2 : Vals (V.ref (s.heap.objs.size + 1) :: (vs ++ dvs)) (Value.ref (s.heap.objs.size + 1) :: (us ++ ds)) := .cons rfl (r.append hd)
  have hl : (Value.ref (s.heap.objs.size + 1) :: us ++ ds).length = ps.length := by
    have e := r2.length
    rw [F.len _ _ _ _ hq] at e
    exact e.symm
  refine wpAny_call (make_map (f := f) I.kIn M.makes M.init (beq_iff_eq.mp M.fn) (codeAny_mono (F.run _ X.stack _ _ ⟨Value.ref (s.heap.objs.size + 1) :: us, []⟩ (Value.ref (s.heap.objs.size + 1) :: (us ++ ds)) _ _ E (hr.make C us [])
    (I2.env0.make C us []) (hb _ (Value.ref (s.heap.objs.size + 1) :: us) I2.kIn hl) r2 hq) fun r s' hq' => ?_))
  cases r with
  | error e => exact hx pins σ _ _ e s' I2 hq'
  | ok fl =>
    cases fl with
    | ret u =>
      obtain ⟨v, H', I3, rv, ev, q3⟩ := I2.after hq'
      subst ev
      exact ⟨rv, ⟨V.ref (s.heap.objs.size + 1), H', I3, rfl, q3⟩⟩
    | next => exact False.elim hq'
    | brk => exact False.elim hq'
    | cont => exact False.elim hq'
theorem pe_make (M : Mk X.K C f) (F : FnOk X.prog X.w X.K X.mg X.base CX k f fd ps sp) (hr : Room (k + 1) X.A) (hg : Gl X x) (hm : X.mg x = some (.ref C)) (hb : Binds X.K fd ps ds) (hd : Vals dvs ds) (hx : Passes CX X E)
    (ha : PA X (e :: es) t) (hdb : (x == ("__debug__" : Str)) = false := by decide) (he : starEach (e :: es) X.env = (false, eval e X.env) :: starEach es X.env := by rfl) (hpl : (backTo pos (starEach es X.env)).any (·.1) = false := by rfl) :
    PE X (.Call (.Name x p) (e :: es) [] pos) (tMake C sp dvs E t) := by
  intro pins s σ H Q I h
  refine wpAny_Call_Name_kw (ld_glob I hg hm ?_ hdb)
  refine PySem.W.callWith_K (h₀ := X.base) I.ok.mod.kin M.kp (thn (ha pos pins s σ H _ I h) fun us s1 ⟨vs, H1, I1, r, q⟩ => ⟨I1.kIn, ?_⟩) he hpl
  exact run_make M F hr hb hd hx I1 r q
theorem pe_make0 (M : Mk X.K C f) (F : FnOk X.prog X.w X.K X.mg X.base CX k f fd ps sp) (hr : Room (k + 1) X.A) (hg : Gl X x) (hm : X.mg x = some (.ref C)) (hb : Binds X.K fd ps ds) (hd : Vals dvs ds) (hx : Passes CX X E)
    (hdb : (x == ("__debug__" : Str)) = false := by decide) : PE X (.Call (.Name x p) [] [] pos) (tMake C sp dvs E tNil) := by
  intro pins s σ H Q I h
  refine wpAny_Call_Name_kw (ld_glob I hg hm ?_ hdb)
  exact PySem.W.callWith_K0 I.kIn M.kp (run_make (us := []) M F hr hb hd hx I .nil h)
end
section
variable {X : Cx} {CX : CXT} {k : Nat} {f C : Addr} {fd : FuncData} {ps ks : List Str} {sp : Sp} {E : XK} {x m : Str} {p pos apos kpos : Pos} {e o : Expr} {es : List Expr} {kws : List Keyword} {te ta : TE} {t tk : TA} {nm : Option Str}
variable {g : List Value → List Value → List Value} {gV : List V → List V → List V}
end
/-- names: the parameters first -/
structure FnScope (N P : List Str) (sc : Scope) : Prop where
  kind : sc.kind = .function
  co : sc.isCoroutine = false
  gen : sc.isGenerator = false
  nd : N.Nodup
  pre : N.take P.length = P
  par : ∀ x ∈ P, sc.names.lookup x = some .local ∨ sc.names.lookup x = some .cell
  nofree : ∀ y ∈ sc.names, y.2 ≠ .free
theorem bindL_out {kindOf : Str → Option NameKind} {x : Str} : ∀ {binds : List (Str × Value)} {m : Str → Option Value}, (∀ v, (x, v) ∉ binds) → bindL kindOf binds m x = m x
  | [], _, _ => rfl
  | (n, v) :: r, m, h => by
    unfold bindL
    rw [bindL_out fun w hw => h w (List.mem_cons_of_mem _ hw)]
    split
    · have : x ≠ n := by rintro rfl; exact h v List.mem_cons_self
      simp [this]
    · rfl
theorem bindC_out {kindOf : Str → Option NameKind} {x : Str} : ∀ {binds : List (Str × Value)} {m : Str → Option Value}, (∀ v, (x, v) ∉ binds) → bindC kindOf binds m x = m x
  | [], _, _ => rfl
  | (n, v) :: r, m, h => by
    unfold bindC
    rw [bindC_out fun w hw => h w (List.mem_cons_of_mem _ hw)]
    split
    · rfl
    · have : x ≠ n := by rintro rfl; exact h v List.mem_cons_self
      simp [this]
theorem bindL_get {kindOf : Str → Option NameKind} {x : Str} {v : Value} : ∀ {P : List Str} {vs : List Value} {i : Nat} {m : Str → Option Value}, P.Nodup → P[i]? = some x → vs[i]? = some v → kindOf x = some .local →
    bindL kindOf (P.zip vs) m x = some v
  | [], _, _, _, _, h, _, _ => by simp at h
  | _ :: _, [], _, _, _, _, h, _ => by simp at h
  | p :: P, w :: vs, 0, m, nd, h1, h2, hk => by
    simp at h1 h2; subst h1; subst h2
    show bindL kindOf ((p, w) :: P.zip vs) m p = _
    unfold bindL
    rw [bindL_out fun v hv => (List.nodup_cons.mp nd).1 (List.of_mem_zip hv).1, if_pos hk]
    simp
  | p :: P, w :: vs, i + 1, m, nd, h1, h2, hk => by
    show bindL kindOf ((p, w) :: P.zip vs) m x = _
    unfold bindL
    exact bindL_get (i := i) (List.nodup_cons.mp nd).2 (by simpa using h1) (by simpa using h2) hk
theorem bindC_get {kindOf : Str → Option NameKind} {x : Str} {v : Value} : ∀ {P : List Str} {vs : List Value} {i : Nat} {m : Str → Option Value}, P.Nodup → P[i]? = some x → vs[i]? = some v → kindOf x ≠ some .local →
    bindC kindOf (P.zip vs) m x = some v
  | [], _, _, _, _, h, _, _ => by simp at h
  | _ :: _, [], _, _, _, _, h, _ => by simp at h
  | p :: P, w :: vs, 0, m, nd, h1, h2, hk => by
    simp at h1 h2; subst h1; subst h2
    show bindC kindOf ((p, w) :: P.zip vs) m p = _
    unfold bindC
    rw [bindC_out fun v hv => (List.nodup_cons.mp nd).1 (List.of_mem_zip hv).1, if_neg hk]
    simp
  | p :: P, w :: vs, i + 1, m, nd, h1, h2, hk => by
    show bindC kindOf ((p, w) :: P.zip vs) m x = _
    unfold bindC
    exact bindC_get (i := i) (List.nodup_cons.mp nd).2 (by simpa using h1) (by simpa using h2) hk
/-- the names' values at the entry -/
def start (N : List Str) (vs : List V) : St := vs.map some ++ List.replicate (N.length - vs.length) none
/-- the context of a def's body, at its entry; an exception leaves the frame, then lies as CX says -/
def cxOf (CX : CXT) (P : Program) (w : World) (K : PySem.W.Frag) (mg : Str → Option Value) (base : Heap) (N : List Str) (qual : Str) (scope : Scope) (f : Addr) (cd : Value) (A : Around) (outer : List Env) (s : Shared) (H : Hp) (E : XK) : Cx where
  prog := P
  w := w
  K := K
  mg := mg
  base := base
  A := A.deeper (envOfC qual scope s.heap.objs.size f cd)
  N := N
  s_0 := s
  H_0 := H
  env := envOfC qual scope s.heap.objs.size f cd
  outer := outer
  stack := envOfC qual scope s.heap.objs.size f cd :: outer
  ex := []
  calm := true
  fn := fun _ => true
  pn := []
  xe := fun e s' => wpAny (model P w) (A.deeper (envOfC qual scope s.heap.objs.size f cd)) (leaving (envOfC qual scope s.heap.objs.size f cd) e) (fun _ s'' => CX outer H s E e s'') (fun e' s'' => CX outer H s E e' s'') s'
theorem cell_has {sc : Scope} {n : Nat} {x : Str} (h : sc.names.lookup x = some .cell) : ∃ c, (cellsFrom n sc.names []).lookup x = some c := by
  have q := PySem.W.cellsFrom_some sc.names n [] (.inl h)
  exact Option.isSome_iff_exists.mp q
theorem inv_start {CX : CXT} {P : Program} {w : World} {K : PySem.W.Frag} {mg : Str → Option Value} {base : Heap} {N ps : List Str} {qual : Str} {scope : Scope} {f : Addr} {cd : Value} {A : Around} {outer : List Env} {s s1 : Shared} {H : Hp} {E : XK} {us : List Value} {vs : List V}
    (S : FnScope N ps scope) (hd : A.handled = none) (e0 : Env0 P w K mg base A outer s H) (hl : vs.length = ps.length) (r : Vals vs us)
    (x : InCallC s s.heap.objs.size (bindL (envOfC qual scope s.heap.objs.size f cd).kindOf (ps.zip us) fun _ => none) (cellsFrom (s.heap.objs.size + 1) scope.names []) (bindC (envOfC qual scope s.heap.objs.size f cd).kindOf (ps.zip us) fun _ => none) s1) :
    Inv (cxOf CX P w K mg base N qual scope f cd A outer s H E) [] (start N vs) H s1 := by
  have hpl : ps.length ≤ N.length := by have := congrArg List.length S.pre; rw [List.length_take] at this; omega
  obtain ⟨h1, tk, rfl, hk⟩ := x.done
  have noA : ∀ b : Addr, b ∉ (cxOf CX P w K mg base N qual scope f cd A outer s H E).ex := fun b z => absurd (show b ∈ ([] : List Addr) from z) (by simp)
  refine ⟨⟨e0.mod, S.kind, rfl, rfl, Nat.le_refl _, fun y z c h1 h2 => ?_, fun y hy => ?_, fun y c _ h => ?_, fun _ => hd, Around.frames_deeper e0.frames, .inr ⟨rfl, rfl⟩, fun b z => absurd z (noA b), e0.bs, e0.bsz, fun b _ _ => noA b, fun b z => absurd z (noA b), e0.funs, e0.frf⟩,
    rfl, e0.bare, Un.kept hk, ⟨_, x.toInCall.ns, fun i y v h1 h2 h3 => ?_⟩, fun y c h => ⟨_, x.cell y c h⟩, e0.hok.fresh (Nat.le_refl _), fun y c h => ?_, fun p hp => absurd (show p ∈ ([] : List (Addr × Obj)) from hp) (by simp), e0.hok.kept hk, ?_⟩
  · exact name_of_addr x.apart (PySem.mem_of_lookup h1) (PySem.mem_of_lookup h2)
  · have hy : scope.names.lookup y = some .cell ∨ scope.names.lookup y = some .free := hy
    rcases hy with hy | hy
    · exact cell_has hy
    · exact absurd rfl (S.nofree _ (PySem.mem_of_lookup hy))
  · exact Nat.le_of_lt (x.above y c (PySem.mem_of_lookup h))
  · have hi : i < vs.length := by
      unfold start at h2
      by_cases hi : i < vs.length
      · exact hi
      · rw [List.getElem?_append_right (by simpa using hi)] at h2
        rw [List.getElem?_replicate] at h2
        split at h2 <;> cases h2
    have ha : vs[i]? = some v := by
      unfold start at h2
      rw [List.getElem?_append_left (by simpa using hi), List.getElem?_map] at h2
      cases e : vs[i]? with
      | none => rw [e] at h2; cases h2
      | some a => rw [e] at h2; cases h2; rfl
    obtain ⟨u, hu, rv⟩ := r.get ha
    have hp : ps[i]? = some y := by
      rw [← S.pre, List.getElem?_take_of_lt (by omega)]; exact h1
    have ndP : ps.Nodup := by rw [← S.pre]; exact S.nd.sublist (List.take_sublist _ _)
    refine ⟨u, rv, ?_⟩
    rcases S.par y (List.mem_of_getElem? hp) with k | k
    · exact .inl ⟨k, bindL_get ndP hp hu k⟩
    · obtain ⟨c, e⟩ := cell_has (n := s.heap.objs.size + 1) k
      refine .inr ⟨.inl k, c, e, ?_⟩
      have q := x.cell y c e
      rw [bindC_get ndP hp hu (by show scope.names.lookup y ≠ _; rw [k]; decide)] at q
      exact q
  · exact e0.hok.fresh (Nat.le_of_lt (x.above y c (PySem.mem_of_lookup h)))
  · unfold start
    show _ = N.length
    rw [List.length_append, List.length_map, List.length_replicate]
    omega
/-- THE RULE: a def (or a method) of the text, by its body. The body's reading t is chosen for each entry; it is run at the parameters' values -/
theorem fn_of {CX : CXT} {P : Program} {w : World} {K : PySem.W.Frag} {mg : Str → Option Value} {base : Heap} {k : Nat} {f : Addr} {name qual : Str} {params : Arguments} {body : List Stmt} {scope : Scope} {dV kV doc pm cdv ct oc : Value} {an od : Option Addr}
    {osl : Array (Option Value)} {N ps : List Str} {sp : Sp} (lk : K.lookup f = some ⟨oc, od, .func (PySem.W.fnOf name qual params body scope dV kV doc pm an cdv ct), osl⟩) (hcd : PySem.W.codeIn K cdv qual = true) (S : FnScope N ps scope)
    (len : ∀ vs H Q E, sp vs H Q E → vs.length = ps.length)
    (hbody : ∀ (A : Around) (outer : List Env) (s : Shared) (H : Hp) (vs : List V) (Q : VK) (E : XK), Room k (A.deeper (envOfC qual scope s.heap.objs.size f cdv)) → sp vs H Q E →
      ∃ t, PSs (cxOf CX P w K mg base N qual scope f cdv A outer s H E) body t ∧ t { nx := fun _ H' => Q .non H', rt := Q } (start N vs) H) :
    FnOk P w K mg base CX (k + 1) f (PySem.W.fnOf name qual params body scope dV kV doc pm an cdv ct) ps sp := by
  refine ⟨len, fun A outer s H args us vs Q E hr e0 hb r hsp => ?_⟩
  have hl := len _ _ _ _ hsp
  have KX : K.In s.heap := e0.mod.kin.keeps fun b o e => (e0.bs b o e).1
  have lim : s.heap.NoLimit := e0.mod.nolimit.keeps fun b o e => (e0.bs b o e).1
  have hkind : ∀ y ∈ ps.zip us, scope.names.lookup y.1 = some .local ∨ (scope.names.lookup y.1 = some .cell ∧ ((cellsFrom (s.heap.objs.size + 1) scope.names []).lookup y.1).isSome = true) := fun ⟨n, v⟩ hy => by
    rcases S.par n (List.of_mem_zip hy).1 with q | q
    · exact .inl q
    · exact .inr ⟨q, PySem.W.cellsFrom_some _ _ _ (.inl q)⟩
  refine codeAny_call_function hr.depth (KX _ _ lk) rfl S.co S.gen rfl (PySem.W.codeRec_of KX hcd) (hb _ _ _ _ ?_)
  refine wpAny_newFunctionEnv_cells S.kind hkind fun env he s1 x => ?_
  subst he
  refine ⟨lim.keeps x.toInCall.keep, codeAny_func ?_⟩
  obtain ⟨t, ht, hq⟩ := hbody A outer s H vs Q E (hr.deeper _) hsp
  have I : Inv (cxOf CX P w K mg base N qual scope f cdv A outer s H E) [] (start N vs) H s1 := inv_start S hr.hd e0 hl r x
  refine wpAny_mono (ht [] s1 (start N vs) H _ I hq) (fun fl s' hs => ?_) fun e s' hs => hs
  have fin : ∀ {σ' : St} {H' : Hp} {v : V} {u : Value}, Inv (cxOf CX P w K mg base N qual scope f cdv A outer s H E) [] σ' H' s' → RelV v u → Q v H' → CE outer P w H s Q u s' :=
    fun {σ' H' v u} J rv q => ⟨v, H', J.os, J.bare, J.base, J.hok, rv, q⟩
  cases fl with
  | ret u =>
    obtain ⟨v, σ', H', J, rv, q⟩ := hs
    exact fin J rv q
  | next =>
    obtain ⟨σ', H', J, q⟩ := hs
    exact fin (v := V.non) (u := Value.none) J rfl q
  | brk =>
    obtain ⟨_, _, _, q⟩ := hs
    exact False.elim q
  | cont =>
    obtain ⟨_, _, _, q⟩ := hs
    exact False.elim q
end L2
namespace L2
open PySem PySem.Spec PyProof.Rows
section
variable {X : Cx} {x : Str} {p pos : Pos} {e : Expr} {es : List Expr} {t : TA} {id T : String} {r : List V → Hp → VK → Prop}
def tCB (r : List V → Hp → VK → Prop) (t : TA) : TE := fun σ H Q => t σ H fun vs H1 => r vs H1 Q
/-- f(e, ..), f a built-in function -/
theorem pe_callB (hc : CallR X (.builtin id) r) (hg : Gl X x) (hm : X.mg x = none) (hv : bootBuiltins x = some (.builtin id)) (ha : PA X (e :: es) t) (hn : x ≠ "__name__" := by decide) (hdb : (x == ("__debug__" : Str)) = false := by decide)
    (he : starEach (e :: es) X.env = (false, eval e X.env) :: starEach es X.env := by rfl) (hpl : (backTo pos (starEach es X.env)).any (·.1) = false := by rfl) : PE X (.Call (.Name x p) (e :: es) [] pos) (tCB r t) := by
  intro pins s σ H Q I h
  refine wpAny_Call_Name_kw (ld_blt I hg hm hv ?_ hn hdb)
  exact PyProof.Rows.callWith_builtin1 (thn (ha pos pins s σ H _ I h) fun us s1 ⟨vs, H1, I1, r1, q1⟩ => hc pins s1 σ H1 vs us Q I1 r1 q1) he hpl
/-- T(e, ..), T a built-in type -/
theorem pe_callTy (hc : CallR X (.type T) r) (hg : Gl X x) (hm : X.mg x = none) (hv : bootBuiltins x = some (.type T)) (ha : PA X (e :: es) t) (hn : x ≠ "__name__" := by decide) (hdb : (x == ("__debug__" : Str)) = false := by decide)
    (he : starEach (e :: es) X.env = (false, eval e X.env) :: starEach es X.env := by rfl) (hpl : (backTo pos (starEach es X.env)).any (·.1) = false := by rfl) : PE X (.Call (.Name x p) (e :: es) [] pos) (tCB r t) := by
  intro pins s σ H Q I h
  refine wpAny_Call_Name_kw (ld_blt I hg hm hv ?_ hn hdb)
  exact PyProof.Rows.callWith_type1 (thn (ha pos pins s σ H _ I h) fun us s1 ⟨vs, H1, I1, r1, q1⟩ => hc pins s1 σ H1 vs us Q I1 r1 q1) he hpl
end
end L2
namespace HT
open PySem PyProof.Rows
section
open PySem.SeqAt
open PySem.AutoSeq1 (wpAny_loadPart')
open PySem.MeetsSeq PySem.MeetsSeq2 PySem.MeetsSeq3
end
section
variable {prog : Program} {w : World} {A : Around} {E : Value → Shared → Prop} {s : Shared}
/-- a slice's bound as a place among n (d where it is left out) -/
def sIx (n d : Nat) : Option Int → Nat
  | none => d
  | some v => if v < 0 then (v + (n : Int)).toNat else min v.toNat n
theorem sIx_nat (n d k : Nat) : sIx n d (some (k : Int)) = min k n := by
  show (if (k : Int) < 0 then ((k : Int) + (n : Int)).toNat else min (k : Int).toNat n) = min k n
  rw [if_neg (by omega), Int.toNat_natCast]
end
end HT
namespace L2
open PySem PySem.Spec PyProof.Rows
abbrev TO := St → Hp → (Option Int → Hp → Prop) → Prop
/-- a slice's part (left out, or an int) -/
def PO (X : Cx) (e : Option Expr) (t : TO) : Prop :=
  ∀ (pins : List (Addr × Obj)) (s : Shared) (σ : St) (H : Hp) (Q : Option Int → Hp → Prop), Inv X pins σ H s → t σ H Q →
    wpAny (model X.prog X.w) X.A (evalPart e X.env) (fun u s' => ∃ o H', Inv X pins σ H' s' ∧ IsPart u o ∧ Q o H') X.xe s
def tPart (t : TE) : TO := fun σ H Q => t σ H fun x H1 => ∃ i, x = .int i ∧ Q (some i) H1
section
variable {X : Cx} {e : Expr} {te : TE} {lo hi : Option Expr} {tl th : TO} {pos p2 : Pos}
theorem po_some (h : PE X e te) : PO X (some e) (tPart te) := by
  intro pins s σ H Q I hw
  rw [evalPart_some]
  refine thn (h pins s σ H _ I hw) fun u s1 ⟨x, H1, I1, r1, q1⟩ => ?_
  obtain ⟨i, rfl, q⟩ := q1
  obtain ⟨t, rfl⟩ := r1
  exact ⟨some i, H1, I1, .int i t, q⟩
/-- what a slice of a value is, by values: the slice object stands at sl -/
def SlR (X : Cx) (r : V → Option Int → Option Int → Hp → VK → Prop) : Prop :=
  ∀ (pins : List (Addr × Obj)) (s : Shared) (σ : St) (H : Hp) (x : V) (v vl vu : Value) (lo hi : Option Int) (sl : Addr) (Q : VK), Inv X pins σ H s → RelV x v → s.heap.IsSliceOf sl vl vu .none → IsPart vl lo → IsPart vu hi → r x lo hi H Q →
    ∃ T id, typeLookup (.type T) "__getitem__" = pure (some (.builtin id)) ∧ s.TypeIs v T ∧ wpAny (model X.prog X.w) X.A (getItem v (.ref sl)) (EP X pins σ Q) X.xe s
def tSl (r : V → Option Int → Option Int → Hp → VK → Prop) (te : TE) (tl th : TO) : TE := fun σ H Q => te σ H fun x H1 => tl σ H1 fun l H2 => th σ H2 fun u H3 => r x l u H3 Q
/-- a[lo:hi], any a -/
theorem pe_slice {r : V → Option Int → Option Int → Hp → VK → Prop} (hr : SlR X r) (he : PE X e te) (hl : PO X lo tl) (hu : PO X hi th) : PE X (.Subscript e (.Slice lo hi none p2) pos) (tSl r te tl th) := by
  intro pins s σ H Q I h
  refine Subscript_ (thn (he pins s σ H _ I h) fun v s1 ⟨x, H1, I1, r1, q1⟩ => ?_)
  refine wpAny_Slice (thn (hl pins s1 σ H1 _ I1 q1) fun vl s2 ⟨l, H2, I2, pl, q2⟩ => thn (hu pins s2 σ H2 _ I2 q2) fun vu s3 ⟨u, H3, I3, pu, q3⟩ => ?_)
  rw [evalPart_none]
  refine wpAny_pure ?_
  have I4 : Inv X pins σ H3 { s3 with heap := s3.heap.push { cls := .type "slice", data := .fields #[vl, vu, .none] } } := I3.kept (t' := s3.toks) fun b ob q => Heap.get?_push_of_some _ q
  obtain ⟨T, id, hT, ht, hg⟩ := hr pins { s3 with heap := s3.heap.push { cls := .type "slice", data := .fields #[vl, vu, .none] } } σ H3 x v vl vu l u s3.heap.objs.size Q I4 r1 (Heap.IsSliceOf.new ..) pl pu q3
  show wpAny (model X.prog X.w) X.A (subscriptTail e (.Slice lo hi none p2) v (.ref s3.heap.objs.size)) (EP X pins σ Q) X.xe { s3 with heap := s3.heap.push { cls := .type "slice", data := .fields #[vl, vu, .none] } }
  exact tail_any (ops := [.ref s3.heap.objs.size, v]) ht hT hg (by with_unfolding_all rfl)
/-- the items of xs[lo:hi] -/
def cutV (xs : List V) (lo hi : Option Int) : List V := (xs.drop (HT.sIx xs.length 0 lo)).take (HT.sIx xs.length xs.length hi - HT.sIx xs.length 0 lo)
theorem cutV_length (xs : List V) (lo hi : Option Int) : (cutV xs lo hi).length ≤ xs.length := by
  unfold cutV
  rw [List.length_take, List.length_drop]
  omega
end
end L2
namespace L2
open PySem PySem.Spec PyProof.Rows
/-- the place that an index of any sign means -/
def ixN (n : Nat) (i : Int) : Option Nat := if 0 ≤ i then (if i < n then some i.toNat else none) else if -(n : Int) ≤ i then some (i + n).toNat else none
def atI {α : Type} (xs : List α) (i : Int) : Option α := (ixN xs.length i).bind fun j => xs[j]?
theorem ixN_seq {n : Nat} {i : Int} {j : Nat} (h : ixN n i = some j) : seqIndex? i n = some j ∧ j < n ∧ -(n : Int) ≤ i ∧ i < n := by
  unfold ixN at h
  by_cases h0 : 0 ≤ i
  · rw [if_pos h0] at h
    by_cases h1 : i < n
    · rw [if_pos h1] at h
      have e : i.toNat = j := Option.some.inj h
      exact ⟨by rw [seqIndex_of h0 h1, e], by omega, by omega, h1⟩
    · rw [if_neg h1] at h; cases h
  · rw [if_neg h0] at h
    by_cases h1 : -(n : Int) ≤ i
    · rw [if_pos h1] at h
      have e : (i + n).toNat = j := Option.some.inj h
      exact ⟨by rw [seqIndex_neg (by omega) h1, e], by omega, h1, by omega⟩
    · rw [if_neg h1] at h; cases h
theorem atI_get {α : Type} {xs : List α} {i : Int} {v : α} (h : atI xs i = some v) : ∃ j, seqIndex? i xs.length = some j ∧ xs[j]? = some v ∧ j < xs.length ∧ -(xs.length : Int) ≤ i ∧ i < xs.length := by
  unfold atI at h
  cases e : ixN xs.length i with
  | none => rw [e] at h; cases h
  | some j =>
    rw [e] at h
    obtain ⟨h1, h2, h3, h4⟩ := ixN_seq e
    exact ⟨j, h1, h, h2, h3, h4⟩
theorem atI_nat {α : Type} {xs : List α} {j : Nat} {v : α} (h : xs[j]? = some v) : atI xs (j : Int) = some v := by
  have hj : j < xs.length := (List.getElem?_eq_some_iff.mp h).1
  have e : ixN xs.length (j : Int) = some j := by
    unfold ixN
    rw [if_pos (by omega), if_pos (by omega)]; simp
  unfold atI; rw [e]; exact h
/-- what stands as an index of a plain subscript -/
def PlainIx (b : Expr) : Prop := ∀ o i, subscripted b false o i = operate [o, i] (getItem o i)
/-- a subscript by values -/
def IxR (X : Cx) (r : R2) : Prop :=
  ∀ (value slice : Expr) (pins : List (Addr × Obj)) (s : Shared) (σ : St) (H : Hp) (x y : V) (v u : Value) (Q : VK), Inv X pins σ H s → RelV x v → RelV y u → r x y H Q →
    subscripted slice false v u = operate [v, u] (getItem v u) → wpAny (model X.prog X.w) X.A (subscriptTail value slice v u) (EP X pins σ Q) X.xe s
/-- a call of a builtin's method by values: the receiver, the arguments -/
def MtR (X : Cx) (id : String) (r : V → List V → Hp → VK → Prop) : Prop :=
  ∀ (pins : List (Addr × Obj)) (s : Shared) (σ : St) (H : Hp) (x : V) (xs : List V) (v : Value) (us : List Value) (Q : VK), Inv X pins σ H s → RelV x v → Vals xs us → r x xs H Q →
    wpAny (model X.prog X.w) X.A (call (.builtin id) (v :: us)) (EP X pins σ Q) X.xe s
section
variable {X : Cx} {a b : Expr} {ta tb : TE} {pos : Pos}
/-- a[b] -/
theorem pe_ix {r : R2} (hr : IxR X r) (ha : PE X a ta) (hb : PE X b tb) (hs : PlainIx b) : PE X (.Subscript a b pos) (tOp r ta tb) := by
  intro pins s σ H Q I h
  exact Subscript_ (binT ha hb I h fun v u s2 x y H2 I2 rx ry q => hr a b pins s2 σ H2 x y v u Q I2 rx ry q (hs _ _))
def rIxL (K : PySem.W.Frag) : R2 := fun x y H Q => ∃ p xs i v, x = .ref p ∧ y = .int i ∧ SqL K H p xs ∧ atI xs i = some v ∧ Q v H
def rIxT (K : PySem.W.Frag) : R2 := fun x y H Q => ∃ p xs i v, x = .ref p ∧ y = .int i ∧ SqT K H p xs ∧ atI xs i = some v ∧ Q v H
theorem ix_list : IxR X (rIxL X.K) := by
  intro value slice pins s σ H x y v u Q I rx ry h hs
  obtain ⟨p, xs, i, z, rfl, rfl, hq, he, q⟩ := h
  cases rx
  obtain ⟨t, rfl⟩ := ry
  obtain ⟨its, r, pl, hz⟩ := I.list hq
  obtain ⟨j, h1, h2, h3, h4, h5⟩ := atI_get he
  obtain ⟨w, ew, rw'⟩ := r.get h2
  have hl := r.length
  have hn := line63
  have fin : EP X pins σ Q w s := ⟨z, H, I, rw', q⟩
  by_cases h0 : 0 ≤ i
  · have hj : i.toNat = j := by
      rw [seqIndex_of h0 h5] at h1
      exact Option.some.inj h1
    exact item_listR pl.isList h0 (by omega) (by rw [hj]; simpa using ew) fin hs
  · have hj : (i + (its.toArray.size : Int)).toNat = j := by
      rw [seqIndex_neg (by omega) h4] at h1
      rw [List.size_toArray, ← hl]
      exact Option.some.inj h1
    exact subscriptTail_builtinR (x := w) pl.isList.typeIs slot_list_getitem.lookup
      (wpAny_getItem_list_neg (Q := fun r s' => r = w ∧ EP X pins σ Q r s') pl.isList (by omega) (by rw [List.size_toArray] <;> omega) (by omega) (by rw [hj]; simpa using ew) ⟨rfl, fin⟩) hs
theorem ix_tup : IxR X (rIxT X.K) := by
  intro value slice pins s σ H x y v u Q I rx ry h hs
  obtain ⟨p, xs, i, z, rfl, rfl, hq, he, q⟩ := h
  cases rx
  obtain ⟨t, rfl⟩ := ry
  obtain ⟨its, r, pl, hz⟩ := I.tuple hq
  obtain ⟨j, h1, h2, h3, h4, h5⟩ := atI_get he
  obtain ⟨w, ew, rw'⟩ := r.get h2
  have hl := r.length
  have hn := line63
  have fin : EP X pins σ Q w s := ⟨z, H, I, rw', q⟩
  exact subscriptTail_builtinR (x := w) pl.typeIs slot_tuple_getitem.lookup
    (getItem_tuple (j := j) (Q := fun r s' => r = w ∧ EP X pins σ Q r s') pl (by omega) (by omega) (by rw [List.size_toArray, ← hl]; exact h1) (by simpa using ew) ⟨rfl, fin⟩) hs
theorem slice_bounds (lo hi : Option Int) (n : Nat) : (sliceBounds lo hi none n).1 = ((HT.sIx n 0 lo : Nat) : Int) ∧ (sliceBounds lo hi none n).2.1 = ((HT.sIx n n hi : Nat) : Int) ∧ (sliceBounds lo hi none n).2.2 = 1 := by
  refine ⟨?_, ?_, rfl⟩
  · cases lo with
    | none => simp [sliceBounds, HT.sIx]
    | some i =>
      simp only [sliceBounds, HT.sIx, Option.getD_none, show (1 : Int) > 0 by decide, if_true]
      by_cases h : i < 0
      · simp only [h, if_true] <;> omega
      · simp only [h, if_false] <;> omega
  · cases hi with
    | none => simp [sliceBounds, HT.sIx]
    | some i =>
      simp only [sliceBounds, HT.sIx, Option.getD_none, show (1 : Int) > 0 by decide, if_true]
      by_cases h : i < 0
      · simp only [h, if_true] <;> omega
      · simp only [h, if_false] <;> omega
theorem slicePick_cut (its : List Value) (lo hi : Option Int) : slicePick its.toArray lo hi none = ((its.drop (HT.sIx its.length 0 lo)).take (HT.sIx its.length its.length hi - HT.sIx its.length 0 lo)).toArray := by
  obtain ⟨h1, h2, h3⟩ := slice_bounds lo hi its.toArray.size
  unfold slicePick
  rw [h1, h2, h3]
  simp only [sliceRange_one, pick_run, List.size_toArray] <;> rfl
/-- xs[lo:hi] of a list: a new list -/
def rSlL (K : PySem.W.Frag) : V → Option Int → Option Int → Hp → VK → Prop := fun x lo hi H Q => ∃ a xs, x = .ref a ∧ SqL K H a xs ∧ ∀ p, H p = none → Q (.ref p) (upd H p (.lst (cutV xs lo hi)))
theorem sl_list : SlR X (rSlL X.K) := by
  intro pins s σ H x v vl vu lo hi sl Q I rx hs pl pu h
  obtain ⟨a, xs, rfl, hx, q⟩ := h
  cases rx
  obtain ⟨its, r, ht, hz⟩ := I.list hx
  have hlen := r.length
  refine ⟨"list", _, slot_list_getitem.lookup, ht.isList.typeIs, ?_⟩
  refine wpAny_getItem_list_slice ht.isList hs pl pu .none (by simp) ?_ (by rw [List.size_toArray] <;> omega)
  rw [slicePick_cut, ← hlen]
  refine ⟨.ref s.heap.objs.size, _, I.laid (t' := s.toks) (o := .lst (cutV xs lo hi)) (fun b ob q => Heap.get?_push_of_some _ q) (Nat.le_refl _) ?_, rfl, q _ (I.hok.fresh (Nat.le_refl _))⟩
  exact ⟨Nat.le_trans (cutV_length xs lo hi) hz, _, 0, (r.drop (HT.sIx xs.length 0 lo)).take (HT.sIx xs.length xs.length hi - HT.sIx xs.length 0 lo), Heap.get?_push_size _ rfl⟩
def flatV : V → Bool
  | .non => true
  | .bl _ => true
  | .int _ => true
  | .str _ => true
  | _ => false
/-- == of flat values -/
def eqV : V → V → Bool
  | .non, .non => true
  | .bl a, .bl b => a == b
  | .bl a, .int b => (if a then 1 else 0) == b
  | .int a, .bl b => a == (if b then 1 else 0)
  | .int a, .int b => a == b
  | .str a, .str b => a == b
  | _, _ => false
theorem eqAt_V {A : Around} {s : Shared} {y x : V} {u v : Value} (ry : RelV y u) (rx : RelV x v) (fy : flatV y = true) (fx : flatV x = true) : SeqAt.EqAt A s u v (eqV y x) := by
  cases y with
  | non =>
    cases ry
    cases x with
    | non => cases rx; exact SeqAt.EqAt.same _
    | bl b => cases rx; exact SeqAt.EqAt.none_bool b
    | int b => obtain ⟨t, rfl⟩ := rx; exact SeqAt.EqAt.none_int b t
    | str b => obtain ⟨t, rfl⟩ := rx; exact SeqAt.EqAt.none_str b t
    | _ => exact absurd (show false = true from fx) Bool.false_ne_true
  | bl a =>
    cases ry
    cases x with
    | non => cases rx; exact SeqAt.EqAt.bool_none a
    | bl b => cases rx; exact SeqAt.EqAt.bool_bool a b
    | int b => obtain ⟨t, rfl⟩ := rx; exact SeqAt.EqAt.bool_int a b t
    | str b => obtain ⟨t, rfl⟩ := rx; exact SeqAt.EqAt.bool_str a b t
    | _ => exact absurd (show false = true from fx) Bool.false_ne_true
  | int a =>
    obtain ⟨t', rfl⟩ := ry
    cases x with
    | non => cases rx; exact SeqAt.EqAt.int_none a t'
    | bl b => cases rx; exact SeqAt.EqAt.int_bool a t' b
    | int b => obtain ⟨t, rfl⟩ := rx; exact SeqAt.EqAt.int_int a t' b t
    | str b => obtain ⟨t, rfl⟩ := rx; exact SeqAt.EqAt.int_str a t' b t
    | _ => exact absurd (show false = true from fx) Bool.false_ne_true
  | str a =>
    obtain ⟨t', rfl⟩ := ry
    cases x with
    | non => cases rx; exact SeqAt.EqAt.str_none a t'
    | bl b => cases rx; exact SeqAt.EqAt.str_bool a t' b
    | int b => obtain ⟨t, rfl⟩ := rx; exact SeqAt.EqAt.str_int a t' b t
    | str b => obtain ⟨t, rfl⟩ := rx; exact SeqAt.EqAt.str_str a t' b t
    | _ => exact absurd (show false = true from fx) Bool.false_ne_true
  | _ => exact absurd (show false = true from fy) Bool.false_ne_true
/-- the items' answers, read off the values (a value's own answer does not lean on its token) -/
def eqU (x : V) (u : Value) : Bool := match u with
  | .none => eqV .non x
  | .bool b => eqV (.bl b) x
  | .int i _ => eqV (.int i) x
  | .str z _ => eqV (.str z) x
  | _ => false
theorem eqU_of {x y : V} {u : Value} (r : RelV y u) (f : flatV y = true) : eqU x u = eqV y x := by
  cases y with
  | non => cases r; rfl
  | bl b => cases r; rfl
  | int i => obtain ⟨t, rfl⟩ := r; rfl
  | str z => obtain ⟨t, rfl⟩ := r; rfl
  | _ => exact absurd (show false = true from f) Bool.false_ne_true
theorem any_eqU {x : V} : ∀ {xs : List V} {us : List Value}, Vals xs us → xs.all flatV = true → us.any (eqU x) = xs.any fun y => eqV y x
  | _, _, .nil, _ => rfl
  | y :: xs, u :: us, .cons r t, f => by
    rw [List.all_cons, Bool.and_eq_true] at f
    rw [List.any_cons, List.any_cons, eqU_of r f.1, any_eqU t f.2]
theorem mem_eqAt {A : Around} {s : Shared} {x : V} {v : Value} (rx : RelV x v) (fx : flatV x = true) : ∀ {xs : List V} {us : List Value}, Vals xs us → xs.all flatV = true → ∀ u ∈ us, SeqAt.EqAt A s u v (eqU x u)
  | _, _, .nil, _ => fun u hu => by cases hu
  | y :: xs, u :: us, .cons r t, f => fun u' hu => by
    rw [List.all_cons, Bool.and_eq_true] at f
    rcases List.mem_cons.mp hu with rfl | hu
    · rw [eqU_of r f.1]; exact eqAt_V r rx f.1 fx
    · exact mem_eqAt rx fx t f.2 u' hu
def inV (x : V) (xs : List V) : Bool := xs.any fun y => eqV y x
/-- x in a list or tuple of flat items -/
def rIn (K : PySem.W.Frag) (neg : Bool) : R2 := fun x y H Q => ∃ p xs, y = .ref p ∧ (SqL K H p xs ∨ SqT K H p xs) ∧ flatV x = true ∧ xs.all flatV = true ∧ Q (.bl (if neg then !inV x xs else inV x xs)) H
theorem op_in_seq : OpR X (compareOp .In) (rIn X.K false) := by
  intro pins s σ H x y v u Q I rx ry h
  obtain ⟨p, xs, rfl, hq, fx, fs, q⟩ := h
  cases ry
  rcases hq with hq | hq
  · obtain ⟨its, r, pl, hz⟩ := I.list hq
    refine SeqAt.in_listAt (eqU x) pl.isList (fun w hw => mem_eqAt rx fx r fs w (by simpa using hw)) ⟨.bl _, H, I, rfl, ?_⟩
    rw [show its.toArray.any (eqU x) = its.any (eqU x) by simp, any_eqU r fs]
    exact q
  · obtain ⟨its, r, pl, hz⟩ := I.tuple hq
    refine SeqAt.in_tupleAt (eqU x) pl (fun w hw => mem_eqAt rx fx r fs w (by simpa using hw)) ⟨.bl _, H, I, rfl, ?_⟩
    rw [show its.toArray.any (eqU x) = its.any (eqU x) by simp, any_eqU r fs]
    exact q
theorem call_len_seq : CallR X (.builtin "len") (fun xs H Q => ∃ p ys, xs = [.ref p] ∧ (SqL X.K H p ys ∨ SqT X.K H p ys) ∧ Q (.int ys.length) H) := by
  intro pins s σ H xs us Q I r h
  obtain ⟨p, ys, rfl, hq, q⟩ := h
  obtain ⟨u, rfl, rx⟩ := vals1 r
  cases rx
  have hn := line63
  rcases hq with hq | hq
  · obtain ⟨its, r', pl, hz⟩ := I.list hq
    have hlen := r'.length
    exact Calls.call_len_list pl.isList (by simp only [List.size_toArray] <;> omega) ⟨.int ys.length, H, I.tok _, ⟨s.toks + 1, by rw [List.size_toArray, hlen]⟩, q⟩
  · obtain ⟨its, r', pl, hz⟩ := I.tuple hq
    have hlen := r'.length
    exact len_tuple pl (by simp only [List.size_toArray] <;> omega) ⟨.int ys.length, H, I.tok _, ⟨s.toks + 1, by rw [List.size_toArray, hlen]⟩, q⟩
/-- the value is of that builtin type -/
def tyV (K : PySem.W.Frag) (T : String) (x : V) (H : Hp) : Prop := match x with
  | .str _ => T = "str"
  | .int _ => T = "int"
  | .ref p => (T = "list" ∧ ∃ xs, SqL K H p xs) ∨ (T = "tuple" ∧ ∃ o, K.lookup p = some o ∧ o.cls = .type "tuple" ∧ o.dict = none) ∨
      (T = "dict" ∧ ((∃ kvs, H p = some (.dK kvs)) ∨ ∃ kvs, H p = some (.dT kvs))) ∨ (T = "set" ∧ ∃ S n, H p = some (.set S n))
  | _ => False
theorem tyV_is {pins : List (Addr × Obj)} {σ : St} {H : Hp} {s : Shared} {T : String} {x : V} {v : Value} (I : Inv X pins σ H s) (r : RelV x v) (ty : tyV X.K T x H) :
    s.TypeIs v T ∧ ∀ a, v = .ref a → ∃ ob, s.heap.get? a = some ob ∧ ob.dict = none := by
  cases x with
  | str z =>
    obtain ⟨t, rfl⟩ := r
    cases (show T = "str" from ty)
    exact ⟨typeIs_str s z t, fun _ e => nomatch e⟩
  | int i =>
    obtain ⟨t, rfl⟩ := r
    cases (show T = "int" from ty)
    exact ⟨typeIs_int s i t, fun _ e => nomatch e⟩
  | ref p =>
    cases r
    rcases ty with ⟨rfl, xs, hq⟩ | ⟨rfl, o, hk, hc, hd⟩ | ⟨rfl, hk⟩ | ⟨rfl, S, n, hk⟩
    · obtain ⟨its, _, pl, _⟩ := I.list hq
      refine ⟨pl.isList.typeIs, fun a e => ?_⟩
      cases e
      obtain ⟨o, n, e, c, hd, _⟩ := pl
      exact ⟨o, e, hd⟩
    · refine ⟨⟨o, I.kIn p o hk, hc⟩, fun a e => ?_⟩
      cases e
      exact ⟨o, I.kIn _ o hk, hd⟩
    · have z : ∃ o, s.heap.get? p = some o ∧ o.ExactDict := by
        rcases hk with ⟨kvs, hk⟩ | ⟨kvs, hk⟩
        · obtain ⟨_, _, _, _, o, _, _, e, ex, _⟩ := I.hok p _ hk
          exact ⟨o, e, ex⟩
        · obtain ⟨_, _, _, _, o, _, _, e, ex, _⟩ := I.hok p _ hk
          exact ⟨o, e, ex⟩
      obtain ⟨o, e, ex⟩ := z
      refine ⟨⟨o, e, ex.1⟩, fun a e2 => ?_⟩
      cases e2
      exact ⟨o, e, ex.2.1⟩
    · obtain ⟨o, _, _, _, e, ex, _⟩ := I.hok p _ hk
      refine ⟨⟨o, e, ex.1⟩, fun a e2 => ?_⟩
      cases e2
      exact ⟨o, e, ex.2.1⟩
  | _ => exact False.elim ty
def tBM (K : PySem.W.Frag) (T : String) (r : V → List V → Hp → VK → Prop) (to : TE) (t : TA) : TE := fun σ H Q => to σ H fun x H1 => tyV K T x H1 ∧ t σ H1 fun xs H2 => r x xs H2 Q
variable {o e : Expr} {es : List Expr} {to : TE} {t : TA} {name : Str} {apos cpos : Pos} {T id : String} {r : V → List V → Hp → VK → Prop}
theorem pe_bm (pa : PlainAttrs T) (slot : Slot T name id) (hty : typeOf (.builtin id) = pure (.type "method_descriptor")) (hm : MtR X id r) (ho : PE X o to) (ha : PA X (e :: es) t)
    (hbase : attributeBase o name X.env (eval o X.env) = eval o X.env := by rfl)
    (hfew : ((backTo cpos (starEach (e :: es) X.env)).all (fun x => !x.1) && (backToKw cpos (keywordEach [] X.env)).all (fun x => x.1.isSome)
      && decide ((e :: es).length + ([] : List Keyword).length + (if ([] : List Keyword).isEmpty then 0 else 1) < 30)) = true := by rfl)
    (hline : (apos.endLine == cpos.line) = true := by rfl) (hs : starEach (e :: es) X.env = (false, eval e X.env) :: starEach es X.env := by rfl) (hplain : (backTo cpos (starEach es X.env)).any (·.1) = false := by rfl) :
    PE X (.Call (.Attribute o name apos) (e :: es) [] cpos) (tBM X.K T r to t) := by
  intro pins s σ H Q I h
  refine wpAny_Call_method_late hbase hfew hline rfl (thn (ho pins s σ H _ I h) fun v s1 ⟨x, H1, I1, r1, ty, q1⟩ => ?_)
  obtain ⟨h1, h2⟩ := tyV_is I1 r1 ty
  refine ⟨T, id, pa, slot, hty, h1, h2, ?_⟩
  have hA := ha cpos pins s1 σ H1 _ I1 q1
  rw [hs] at hA ⊢
  refine Calls.callWith_builtin (by show (false || (backTo cpos (starEach es X.env)).any (·.1)) = false; rw [hplain] <;> rfl) (Calls.evalArgs_plain ?_)
  exact thn hA fun us s2 ⟨vs, H2, I2, r2, q2⟩ => hm pins s2 σ H2 x vs v us Q I2 r1 r2 q2
/- xs.append(e), list.index on a module's tuple .. are MtR facts of 06m -/
end
end L2
namespace L2
open PySem PySem.Spec PyProof.Rows
def MtM (X : Cx) (id : String) (r : V → List V → Hp → VK → Prop) : Prop :=
  ∀ (pins : List (Addr × Obj)) (s : Shared) (σ : St) (H : Hp) (x : V) (xs : List V) (v : Value) (us : List Value) (Q : VK), Inv X pins σ H s → RelV x v → Vals xs us → r x xs H Q →
    wpAny (model X.prog X.w) X.A (call (.builtin id) (v :: us)) (EP X pins σ Q) X.xe s
theorem Vals.one : ∀ {x : V} {us : List Value}, Vals [x] us → ∃ u, us = [u] ∧ RelV x u
  | _, _, .cons r .nil => ⟨_, rfl, r⟩
theorem Vals.eraseIdx : ∀ {xs : List V} {us : List Value} (i : Nat), Vals xs us → Vals (xs.eraseIdx i) (us.eraseIdx i)
  | _, _, _, .nil => .nil
  | _, _, 0, .cons _ t => t
  | _, _, i + 1, .cons r t => .cons r (Vals.eraseIdx i t)
theorem len_erase {α : Type} : ∀ (l : List α) (i : Nat), (l.eraseIdx i).length ≤ l.length
  | [], _ => Nat.le_refl _
  | _ :: _, 0 => Nat.le_succ _
  | _ :: r, i + 1 => Nat.succ_le_succ (len_erase r i)
section
variable {X : Cx} {pins : List (Addr × Obj)} {σ : St} {H : Hp} {s : Shared} {l b : Addr} {xs ys zs : List V}
theorem Inv.lset {its its' : List Value} {n : Nat} {f : Array Value → Array Value} {t' : Nat} (I : Inv X pins σ H s) (hH : H l = some (.lst xs))
    (e : s.heap.get? l = some { cls := .type "list", data := .seq its.toArray n }) (hf : f its.toArray = its'.toArray) (hv : Vals ys its') (hz : ys.length ≤ sizeLine) :
    Inv X pins σ (upd H l (.lst ys)) { s with heap := s.heap.update l (Obj.mapSeq f), toks := t' } := by
  have q := PySem.IsL.update e f
  rw [hf] at q
  refine I.write (x := l) (e := l) (by rw [hH]; exact trivial) (.inl rfl) (fun b' u hb hu => (Heap.get?_update_other s.heap (Obj.mapSeq f) (Ne.symm hb)).trans hu) ⟨_, q⟩ ?_
  exact ⟨hz, its', _, hv, q⟩
theorem Inv.lnew {its : List Value} {t' : Nat} (I : Inv X pins σ H s) (hv : Vals ys its) (hz : ys.length ≤ sizeLine) :
    Inv X pins σ (upd H s.heap.objs.size (.lst ys)) { s with heap := s.heap.push { cls := .type "list", data := .seq its.toArray }, toks := t' } :=
  I.laid (fun _ _ q => Heap.get?_push_of_some _ q) (Nat.le_refl _) ⟨hz, its, 0, hv, Heap.get?_push_size _ rfl⟩
theorem Inv.fresh (I : Inv X pins σ H s) : H s.heap.objs.size = none := I.hok.fresh (Nat.le_refl _)
theorem Inv.lstM (I : Inv X pins σ H s) (hH : H l = some (.lst xs)) : xs.length ≤ sizeLine ∧ ∃ (its : List Value) (n : Nat), Vals xs its ∧ xs.length = its.length ∧ s.heap.get? l = some { cls := .type "list", data := .seq its.toArray n } := by
  obtain ⟨z, its, n, r, e⟩ := I.hok l _ hH
  exact ⟨z, its, n, r, r.length, e⟩
theorem notLongL {n : Nat} (h : n ≤ sizeLine) : Builtin.List.listTooLong n = false := by
  unfold Builtin.List.listTooLong
  exact decide_eq_false (by omega)
end
section
variable {X : Cx}
def rAppend : V → List V → Hp → VK → Prop := fun x vs H Q => ∃ l xs y, x = .ref l ∧ vs = [y] ∧ H l = some (.lst xs) ∧ xs.length < sizeLine ∧ Q .non (upd H l (.lst (xs ++ [y])))
theorem mt_append : MtM X "list.append" rAppend := by
  intro pins s σ H x vs v us Q I rx rv h
  obtain ⟨l, xs, y, rfl, rfl, hH, hz, q⟩ := h
  cases rx
  obtain ⟨u, rfl, ru⟩ := rv.one
  obtain ⟨z, its, n, r, hl, e⟩ := I.lstM hH
  refine call_meets F.slot_list_append ⟨_, e, rfl⟩ F.entry_list_append (F.args_list_append_2 _ _) (PySem.list_append l its.toArray n u (by rw [List.size_toArray]; omega)) ⟨e, ?_⟩
  refine ⟨.non, _, I.lset (its' := its ++ [u]) hH e (by simp) (r.append (.cons ru .nil)) ?_, rfl, q⟩
  rw [List.length_append, List.length_singleton]
  omega
def rExtend : V → List V → Hp → VK → Prop := fun x vs H Q => ∃ l b xs zs, x = .ref l ∧ vs = [.ref b] ∧ H l = some (.lst xs) ∧ H b = some (.lst zs) ∧ xs.length + zs.length ≤ sizeLine ∧ Q .non (upd H l (.lst (xs ++ zs)))
theorem mt_extend : MtM X "list.extend" rExtend := by
  intro pins s σ H x vs v us Q I rx rv h
  obtain ⟨l, b, xs, zs, rfl, rfl, hH, hB, hz, q⟩ := h
  cases rx
  obtain ⟨u, rfl, ru⟩ := rv.one
  cases ru
  obtain ⟨z, its, n, r, hl, e⟩ := I.lstM hH
  obtain ⟨z2, its2, n2, r2, hl2, e2⟩ := I.lstM hB
  have hsz : its.toArray.size + its2.toArray.size ≤ sizeLine := by rw [List.size_toArray, List.size_toArray]; omega
  have hlong : ¬ (!its.toArray.isEmpty && Builtin.List.listTooLong (its.toArray.size + its2.toArray.size)) = true := by
    rw [notLongL hsz, Bool.and_false]
    exact Bool.false_ne_true
  refine call_meets F.slot_list_extend ⟨_, e, rfl⟩ F.entry_list_extend (F.args_list_extend_2 _ _)
    (AutoSeq1.list_extend_list_list_0 l its.toArray n b its2.toArray n2 hlong (by rw [List.size_toArray]; omega) (by omega)) ⟨e, e2, ?_⟩
  refine ⟨.non, _, I.lset (its' := its ++ its2) hH e (by simp) (r.append r2) ?_, rfl, q⟩
  rw [List.length_append]
  omega
def rPopAt : V → List V → Hp → VK → Prop := fun x vs H Q => ∃ l xs i k y, x = .ref l ∧ vs = [.int i] ∧ H l = some (.lst xs) ∧ -(2 ^ 63) ≤ i ∧ i < 2 ^ 63 ∧ seqIndex? i xs.length = some k ∧ xs[k]? = some y ∧ Q y (upd H l (.lst (xs.eraseIdx k)))
theorem mt_popAt : MtM X "list.pop" rPopAt := by
  intro pins s σ H x vs v us Q I rx rv h
  obtain ⟨l, xs, i, k, y, rfl, rfl, hH, h1, h2, hk, hy, q⟩ := h
  cases rx
  obtain ⟨u, rfl, ru⟩ := rv.one
  obtain ⟨t, rfl⟩ := ru
  obtain ⟨z, its, n, r, hl, e⟩ := I.lstM hH
  obtain ⟨w, hw, rw'⟩ := r.get hy
  refine call_meets F.slot_list_pop ⟨_, e, rfl⟩ F.entry_list_pop (F.args_list_pop_2 _ _)
    (MeetsSeq.list_pop_at l its.toArray n i t k w (fitsIndex_both h1 h2) (by rw [List.size_toArray, ← hl]; exact hk) (by rw [← Array.getElem?_toList]; exact hw) (by rw [List.size_toArray]; omega)) ⟨e, ?_⟩
  refine ⟨y, _, I.lset (its' := its.eraseIdx k) hH e ?_ (r.eraseIdx k) ?_, rw', q⟩
  · show its.toArray.eraseIdxIfInBounds k = (its.eraseIdx k).toArray
    rw [List.eraseIdxIfInBounds_toArray]
  · have := len_erase xs k
    omega
def rCat : R2 := fun x y H Q => ∃ l b xs zs, x = .ref l ∧ y = .ref b ∧ H l = some (.lst xs) ∧ H b = some (.lst zs) ∧ xs.length + zs.length ≤ sizeLine ∧ ∀ p, H p = none → Q (.ref p) (upd H p (.lst (xs ++ zs)))
theorem op_cat : OpR X (binaryOp .Add) rCat := by
  intro pins s σ H x y v u Q I rx ry h
  obtain ⟨l, b, xs, zs, rfl, rfl, hH, hB, hz, q⟩ := h
  cases rx
  cases ry
  obtain ⟨z, its, n, r, hl, e⟩ := I.lstM hH
  obtain ⟨z2, its2, n2, r2, hl2, e2⟩ := I.lstM hB
  refine PySem.P.add_list e e2 ?_ (by rw [List.size_toArray, List.size_toArray]; omega)
  have ea : its.toArray ++ its2.toArray = (its ++ its2).toArray := by simp
  rw [ea]
  exact ⟨.ref _, _, I.lnew (t' := s.toks) (r.append r2) (by rw [List.length_append]; omega), rfl, q _ I.fresh⟩
end
section
variable {prog : Program} {w : World} {A : Around} {E : Value → Shared → Prop} {s : Shared}
end
section
variable {X : Cx}
end
end L2
namespace L2
open PySem PySem.Spec PyProof.Rows
theorem Vals.ints : ∀ {ns : List Int} {us : List Value}, Vals (ns.map V.int) us → IntsAre us ns
  | [], us, h => by
    rw [List.map_nil] at h
    cases h
    exact IntsAre.nil
  | n :: ns, us, h => by
    rw [List.map_cons] at h
    cases h with
    | cons r t =>
      obtain ⟨k, rfl⟩ := r
      exact IntsAre.cons n k (Vals.ints t)
theorem Vals.ref1 {a : Addr} {us : List Value} (r : Vals [V.ref a] us) : us = [Value.ref a] := by
  cases r with
  | cons r t =>
    cases t
    cases r
    rfl
section
variable {prog : Program} {w : World} {A : Around} {E : Value → Shared → Prop} {s : Shared} {l : Addr} {its : List Value} {ns : List Int} {Q : Value → Shared → Prop}
theorem sum_raw (hh : A.handled = none) (hl : s.heap.IsList l its.toArray) (hi : IntsAre its ns)
    (h : ∀ h' tk t', (∀ b o, s.heap.get? b = some o → h'.get? b = some o) → Q (.int ns.sum t') { s with heap := h', toks := tk }) : wpAny (model prog w) A (call (.builtin "sum") [.ref l]) Q E s := by
  obtain ⟨xs, e⟩ := hi.allInts.items
  have hn : numsOf (intItems xs).toList = ns := by rw [← e]; exact hi.numsOf
  rw [nums_intItems] at hn
  rw [e] at hl
  refine PySem.sum_intListG hh hl fun h' tk t' hk => ?_
  have := h h' tk t' hk
  rw [preSum_eq, List.take_of_length_le (by simp), hn]; exact this
end
section
variable {X : Cx}
/-- sum(xs) of a list of ints -/
def rSum (K : PySem.W.Frag) : List V → Hp → VK → Prop := fun vs H Q => ∃ (a : Addr) (ns : List Int), vs = [V.ref a] ∧ SqL K H a (ns.map V.int) ∧ Q (.int ns.sum) H
theorem cr_sum (hc : X.calm = true) : CallR X (.builtin "sum") (rSum X.K) := by
  intro pins s σ H vs us Q I r h
  obtain ⟨a, ns, rfl, hs, q⟩ := h
  obtain ⟨its, rv, hl, _⟩ := I.list hs
  rw [Vals.ref1 r]
  exact sum_raw (I.ok.hd hc) hl.isList rv.ints fun h' tk t' hk => ⟨.int _, H, I.kept hk, ⟨_, rfl⟩, q⟩
end
section
variable {X : Cx}
end
section
variable {X : Cx}
end
section
variable {X : Cx}
end
section
variable {X : Cx} {pins : List (Addr × Obj)} {σ : St} {H : Hp} {s : Shared}
end
section
variable {X : Cx}
end
end L2
namespace L2
open PySem PySem.Spec PyProof.Rows
abbrev CellAt (h : Heap) (c : Addr) (v : Option Value) : Prop := h.IsCell c v
def relS (scope sc : Scope) : Scope :=
  { scope with names := scope.names.map fun (n, k) => if (k == .free && sc.kind == .function && sc.names.lookup n == some .cell) then (n, .cell) else (n, k) }
def cloFrom (cells : List (Str × Addr)) : List (Str × NameKind) → List (Str × Addr) → List (Str × Addr)
  | [], acc => acc
  | (n, k) :: r, acc => if k == .free then cloFrom cells r ((n, (cells.lookup n).getD 0) :: acc) else cloFrom cells r acc
theorem closure_loop (env : Env) (f : Str × NameKind → List (Str × Addr) → Sem (ForInStep (List (Str × Addr))))
    (hf : ∀ n k c, f (n, k) c = if k == .free then (do let a ← cellOf env n; pure (.yield ((n, a) :: c))) else pure (.yield c)) :
    ∀ (names : List (Str × NameKind)) (acc : List (Str × Addr)), (∀ y ∈ names, y.2 = .free → ∃ c, env.cells.lookup y.1 = some c) → forIn names acc f = pure (cloFrom env.cells names acc)
  | [], acc, _ => by rw [List.forIn_nil]; rfl
  | (n, k) :: r, acc, h => by
    rw [List.forIn_cons, hf]
    have ih := fun acc => closure_loop env f hf r acc fun y hy => h y (List.mem_cons_of_mem _ hy)
    unfold cloFrom
    by_cases hk : (k == NameKind.free) = true
    · rw [if_pos hk, if_pos hk]
      obtain ⟨c, hc⟩ := h (n, k) List.mem_cons_self (by simpa using hk)
      have e : cellOf env n = pure c := by unfold cellOf; rw [hc]
      rw [e]
      have e2 : (env.cells.lookup n).getD 0 = c := by rw [hc]; rfl
      rw [e2]
      exact ih _
    · rw [if_neg hk, if_neg hk]
      exact ih _
theorem closure_ok {scope : Scope} {env : Env} (h : ∀ y ∈ scope.names, y.2 = .free → ∃ c, env.cells.lookup y.1 = some c) : closureFor scope env = pure (cloFrom env.cells scope.names []) := by
  simp only [closureFor]
  rw [closure_loop env _ (fun n k c => rfl) scope.names [] h]
  rfl
theorem mem_lookup {α : Type} : ∀ {l : List (Str × α)} {n : Str} {c : α}, (n, c) ∈ l → ∃ c', l.lookup n = some c'
  | (k, v) :: r, n, c, h => by
    rw [List.lookup_cons]
    cases hb : n == k with
    | true => exact ⟨_, rfl⟩
    | false =>
      rcases List.mem_cons.mp h with e | h
      · cases e; simp at hb
      · exact mem_lookup h
theorem cloFrom_mem {cells : List (Str × Addr)} : ∀ {names : List (Str × NameKind)} {acc : List (Str × Addr)} {n : Str} {c : Addr}, (n, c) ∈ cloFrom cells names acc → (n, c) ∈ acc ∨ ((n, .free) ∈ names ∧ c = (cells.lookup n).getD 0)
  | [], _, _, _, h => .inl h
  | (m, k) :: r, acc, n, c, h => by
    unfold cloFrom at h
    split at h
    · rename_i hk
      have hk : k = .free := by simpa using hk
      rcases cloFrom_mem h with h | ⟨h1, h2⟩
      · rcases List.mem_cons.mp h with e | h
        · cases e; exact .inr ⟨hk ▸ List.mem_cons_self, rfl⟩
        · exact .inl h
      · exact .inr ⟨List.mem_cons_of_mem _ h1, h2⟩
    · rcases cloFrom_mem h with h | ⟨h1, h2⟩
      · exact .inl h
      · exact .inr ⟨List.mem_cons_of_mem _ h1, h2⟩
theorem cloFrom_acc {cells : List (Str × Addr)} : ∀ {names : List (Str × NameKind)} {acc : List (Str × Addr)} {p : Str × Addr}, p ∈ acc → p ∈ cloFrom cells names acc
  | [], _, _, h => h
  | (m, k) :: r, acc, p, h => by
    unfold cloFrom
    split
    · exact cloFrom_acc (List.mem_cons_of_mem _ h)
    · exact cloFrom_acc h
theorem cloFrom_has {cells : List (Str × Addr)} : ∀ {names : List (Str × NameKind)} {acc : List (Str × Addr)} {n : Str}, (n, .free) ∈ names → (n, (cells.lookup n).getD 0) ∈ cloFrom cells names acc
  | (m, k) :: r, acc, n, h => by
    unfold cloFrom
    rcases List.mem_cons.mp h with e | h
    · cases e
      exact cloFrom_acc List.mem_cons_self
    · split
      · exact cloFrom_has h
      · exact cloFrom_has h
theorem cells_mem : ∀ {names : List (Str × NameKind)} {h : Heap} {acc : List (Str × Addr)} {x : Str} {c : Addr}, (x, c) ∈ cellsFrom h.objs.size names acc →
    (x, c) ∈ acc ∨ ((x, .cell) ∈ names ∧ h.objs.size ≤ c ∧ CellAt (pushCells h names) c none)
  | [], _, _, _, _, h => .inl h
  | (n, k) :: r, h, acc, x, c, hm => by
    unfold cellsFrom at hm
    unfold pushCells
    split at hm
    · rename_i hk
      rw [if_pos hk]
      have hk : k = .cell := by simpa using hk
      rw [← Heap.size_push h { cls := .type "cell", data := .cell none }] at hm
      rcases cells_mem hm with hm | ⟨h1, h2, h3⟩
      · rcases List.mem_cons.mp hm with e | hm
        · cases e
          exact .inr ⟨hk ▸ List.mem_cons_self, Nat.le_refl _, _, pushCells_keeps r _ _ _ (Heap.get?_push_size _ rfl), rfl⟩
        · exact .inl hm
      · rw [Heap.size_push] at h2
        exact .inr ⟨List.mem_cons_of_mem _ h1, Nat.le_of_succ_le h2, h3⟩
    · rename_i hk
      rw [if_neg hk]
      rcases cells_mem hm with hm | ⟨h1, h2, h3⟩
      · exact .inl hm
      · exact .inr ⟨List.mem_cons_of_mem _ h1, h2, h3⟩
theorem cells_acc : ∀ {names : List (Str × NameKind)} {n : Nat} {acc : List (Str × Addr)} {p : Str × Addr}, p ∈ acc → p ∈ cellsFrom n names acc
  | [], _, _, _, h => h
  | (m, k) :: r, n, acc, p, h => by
    unfold cellsFrom
    split
    · exact cells_acc (List.mem_cons_of_mem _ h)
    · exact cells_acc h
theorem cells_has : ∀ {names : List (Str × NameKind)} {n : Nat} {acc : List (Str × Addr)} {x : Str}, (x, .cell) ∈ names → ∃ c, (x, c) ∈ cellsFrom n names acc
  | (m, k) :: r, n, acc, x, h => by
    unfold cellsFrom
    rcases List.mem_cons.mp h with e | h
    · cases e
      exact ⟨n, cells_acc List.mem_cons_self⟩
    · split
      · exact cells_has h
      · exact cells_has h
theorem cells_inj : ∀ {names : List (Str × NameKind)} {h : Heap} {acc : List (Str × Addr)} {x y : Str} {c : Addr}, (∀ p ∈ acc, p.2 < h.objs.size) → (∀ x y c, (x, c) ∈ acc → (y, c) ∈ acc → x = y) →
    (x, c) ∈ cellsFrom h.objs.size names acc → (y, c) ∈ cellsFrom h.objs.size names acc → x = y
  | [], _, _, _, _, _, _, hi, h1, h2 => hi _ _ _ h1 h2
  | (n, k) :: r, h, acc, x, y, c, hl, hi, h1, h2 => by
    unfold cellsFrom at h1 h2
    split at h1
    · rename_i hk
      rw [if_pos hk] at h2
      rw [← Heap.size_push h { cls := .type "cell", data := .cell none }] at h1 h2
      refine cells_inj (h := h.push _) (fun p hp => ?_) (fun x y c a b => ?_) h1 h2
      · rw [Heap.size_push]
        rcases List.mem_cons.mp hp with rfl | hp
        · exact Nat.lt_succ_self _
        · exact Nat.lt_succ_of_lt (hl p hp)
      · rcases List.mem_cons.mp a with e | a <;> rcases List.mem_cons.mp b with e' | b
        · cases e; cases e'; rfl
        · cases e; exact absurd (hl _ b) (Nat.lt_irrefl _)
        · cases e'; exact absurd (hl _ a) (Nat.lt_irrefl _)
        · exact hi _ _ _ a b
    · rename_i hk
      rw [if_neg hk] at h2
      exact cells_inj hl hi h1 h2
theorem newEnv_comp {M : Model} {A : Around} {E : Value → Shared → Prop} {s : Shared} {scope : Scope} {globals : Addr} {closure : List (Str × Addr)} {qual : Str} {func : Option Addr} {code : Value} {around : Env} {builtins : Addr} {Q : Env → Shared → Prop}
    (h : Q (newEnv scope s.heap.objs.size globals (cellsFrom (s.heap.objs.size + 1) scope.names closure) qual func code (some around) builtins)
      { s with heap := pushCells (s.heap.push { cls := .type "dict", data := .dict #[] }) scope.names }) :
    wpAny M A (newFunctionEnv scope globals closure [] qual func code (some around) builtins) Q E s := by
  simp only [newFunctionEnv, Option.isSome_some, if_true]
  refine wpAny_bind (wpAny_alloc ?_)
  refine wpAny_bind (wpAny_layCells _ (fun n k c => rfl) scope.names closure _ _ ?_)
  rw [show ({ s with heap := s.heap.push { cls := .type "dict", data := .dict #[] } } : Shared).heap.objs.size = s.heap.objs.size + 1 from Heap.size_push ..]
  rw [List.forIn_nil]
  exact wpAny_bind (wpAny_pure (wpAny_pure h))
/-- every name of the written scope, in the scope that runs -/
theorem lookup_relS {sc : Scope} : ∀ {names : List (Str × NameKind)} {x : Str} {k : NameKind},
    (names.map fun (n, k) => if (k == NameKind.free && sc.kind == .function && sc.names.lookup n == some .cell) then (n, NameKind.cell) else (n, k)).lookup x = some k →
    ∃ k', names.lookup x = some k' ∧ (k = k' ∨ (k' = .free ∧ k = .cell))
  | [], _, _, h => by simp at h
  | (n, k₀) :: r, x, k, h => by
    have ih := @lookup_relS sc r x k
    have h' : List.lookup x ((if (k₀ == NameKind.free && sc.kind == .function && sc.names.lookup n == some .cell) = true then (n, NameKind.cell) else (n, k₀)) :: (r.map _)) = some k := h
    cases hx : x == n with
    | true =>
      simp only [List.lookup_cons, hx]
      by_cases hc : (k₀ == NameKind.free && sc.kind == .function && sc.names.lookup n == some .cell) = true
      · rw [if_pos hc] at h'
        simp only [List.lookup_cons, hx] at h'
        cases h'
        simp only [Bool.and_eq_true, beq_iff_eq] at hc
        exact ⟨k₀, rfl, .inr ⟨hc.1.1, rfl⟩⟩
      · rw [if_neg hc] at h'
        simp only [List.lookup_cons, hx] at h'
        cases h'
        exact ⟨_, rfl, .inl rfl⟩
    | false =>
      simp only [List.lookup_cons, hx]
      by_cases hc : (k₀ == NameKind.free && sc.kind == .function && sc.names.lookup n == some .cell) = true
      · rw [if_pos hc] at h'
        simp only [List.lookup_cons, hx] at h'
        exact ih h'
      · rw [if_neg hc] at h'
        simp only [List.lookup_cons, hx] at h'
        exact ih h'
/-- the names of a comprehension's block: its own (with their places in N), or captured -/
structure BlkOk (N : List Str) (sc scope : Scope) (own : List (Str × Nat)) : Prop where
  kind : scope.kind = .function
  uniq : ∀ y ∈ scope.names, scope.names.lookup y.1 = some y.2
  ix : ∀ p ∈ own, N[p.2]? = some p.1
  free : ∀ y ∈ scope.names, y.2 = .free → sc.names.lookup y.1 = some .cell ∨ sc.names.lookup y.1 = some .free
  own : ∀ y ∈ scope.names, y.2 = .local ∨ y.2 = .cell → y.1 ∈ own.map (·.1) ∨ y.1 ∉ N
/-- the slots of the block's own names forgotten -/
def wipe (σ : St) : List Nat → St
  | [] => σ
  | v :: vs => (wipe σ vs).set v none
theorem wipe_length (σ : St) : ∀ vs : List Nat, (wipe σ vs).length = σ.length
  | [] => rfl
  | v :: vs => by unfold wipe; rw [List.length_set, wipe_length σ vs]
theorem wipe_some {σ : St} {i : Nat} {x : V} : ∀ {vs : List Nat}, (wipe σ vs)[i]? = some (some x) → σ[i]? = some (some x) ∧ i ∉ vs
  | [], h => ⟨h, by simp⟩
  | v :: vs, h => by
    unfold wipe at h
    by_cases hi : v = i
    · subst hi
      by_cases hv : v < (wipe σ vs).length
      · rw [List.getElem?_set_self hv] at h; cases h
      · rw [List.getElem?_eq_none (by simpa using hv)] at h; cases h
    · rw [List.getElem?_set_ne hi] at h
      obtain ⟨h1, h2⟩ := wipe_some h
      exact ⟨h1, by simp only [List.mem_cons, not_or]; exact ⟨fun e => hi e.symm, h2⟩⟩
/-- the context of a block that starts at s, its iterator's objects at fp -/
abbrev Cx.blk (X : Cx) (s : Shared) (H : Hp) (scope : Scope) (cenv : Env) (fp : List Addr) : Cx := { X with s_0 := s, H_0 := H, env := cenv, outer := X.stack, ex := fp, fn := fun x => scope.names.lookup x == some .cell, pn := [], xe := fun _ _ => False }
section
variable {X : Cx} {pins : List (Addr × Obj)} {σ : St} {H : Hp} {s : Shared}
theorem block_start {scope : Scope} {own : List (Str × Nat)} {fp : List Addr} (I : Inv X pins σ H s) (ok : BlkOk X.N X.env.scope scope own) (hN : X.N.Nodup) (hfp : ∀ b ∈ fp, FpOk X pins H b ∧ b < s.heap.objs.size) :
    Inv (X.blk s H scope (compEnvC scope (cellsFrom (s.heap.objs.size + 1) scope.names (cloFrom X.env.cells scope.names [])) s.heap.objs.size X.env) fp) [] (wipe σ (own.map (·.2))) H { s with heap := pushCells (s.heap.push { cls := .type "dict", data := .dict #[] }) scope.names } := by
  have hfree : ∀ y ∈ scope.names, y.2 = .free → ∃ c, X.env.cells.lookup y.1 = some c := fun y hy e => by
    rcases ok.free y hy e with k | k
    · exact I.ok.has _ (.inl k)
    · exact I.ok.has _ (.inr k)
  generalize hcenv : compEnvC scope (cellsFrom (s.heap.objs.size + 1) scope.names (cloFrom X.env.cells scope.names [])) s.heap.objs.size X.env = cenv
  have kp : ∀ b o, s.heap.get? b = some o → (pushCells (s.heap.push { cls := .type "dict", data := .dict #[] }) scope.names).get? b = some o := fun b o e => pushCells_keeps _ _ _ _ (Heap.get?_push_of_some _ e)
  have hL : cenv.locals = s.heap.objs.size := by rw [← hcenv]; rfl
  have hcl : cenv.cells = cellsFrom (s.heap.objs.size + 1) scope.names (cloFrom X.env.cells scope.names []) := by rw [← hcenv]; rfl
  have hsc : cenv.scope = relS scope X.env.scope := by rw [← hcenv]; rfl
  rw [← Heap.size_push s.heap { cls := .type "dict", data := .dict #[] }] at hcl
  have cm : ∀ {y c}, (y, c) ∈ cloFrom X.env.cells scope.names [] → X.env.cells.lookup y = some c ∧ c < s.heap.objs.size := fun {y c} hm => by
    rcases cloFrom_mem hm with hm | ⟨h1, rfl⟩
    · cases hm
    · obtain ⟨c, hc⟩ := hfree _ h1 rfl
      rw [hc]
      obtain ⟨w, z⟩ := I.cell _ _ hc
      exact ⟨rfl, z.lt⟩
  have mem : ∀ {y c}, cenv.cells.lookup y = some c → (X.env.cells.lookup y = some c ∧ c < s.heap.objs.size) ∨ (s.heap.objs.size + 1 ≤ c ∧ CellAt (pushCells (s.heap.push { cls := .type "dict", data := .dict #[] }) scope.names) c none) := fun {y c} e => by
    rw [hcl] at e
    rcases cells_mem (PySem.mem_of_lookup e) with hm | ⟨_, h2, h3⟩
    · exact .inl (cm hm)
    · rw [Heap.size_push] at h2; exact .inr ⟨h2, h3⟩
  have look : ∀ {y}, scope.names.lookup y = some .free → ∃ c, cenv.cells.lookup y = some c ∧ X.env.cells.lookup y = some c := fun {y} hl => by
    have hy : (y, NameKind.free) ∈ scope.names := PySem.mem_of_lookup hl
    obtain ⟨c', e'⟩ := mem_lookup (cells_acc (names := scope.names) (n := (s.heap.push { cls := .type "dict", data := .dict #[] }).objs.size) (cloFrom_has (cells := X.env.cells) (acc := []) hy))
    rw [← hcl] at e'
    refine ⟨c', e', ?_⟩
    rw [hcl] at e'
    rcases cells_mem (PySem.mem_of_lookup e') with hm | ⟨h1, _, _⟩
    · exact (cm hm).1
    · have := ok.uniq _ h1
      rw [hl] at this; cases this
  have okB : (X.blk s H scope cenv fp).Ok := by
    refine ⟨I.ok.mod, by show cenv.scope.kind = _; rw [hsc]; exact ok.kind, by show cenv.globals = _; rw [← hcenv]; exact I.ok.glob, by show cenv.builtins = _; rw [← hcenv]; exact I.ok.blt, by show s.heap.objs.size ≤ cenv.locals; rw [hL]; exact Nat.le_refl _,
      fun y z c e1 e2 => ?_, fun y hy => ?_, fun y c z e => ?_, I.ok.hd, I.ok.frames, .inl rfl, fun b hb => ⟨?_, fun y c e z => ?_⟩, I.bs, Nat.le_trans I.ok.bsz I.sz, fun b o e hb => ?_, fun b hb z => ?_, I.stack, I.stkFree⟩
    · have e1 : cenv.cells.lookup y = some c := e1
      have e2 : cenv.cells.lookup z = some c := e2
      rw [hcl] at e1 e2
      refine cells_inj (fun p hp => ?_) (fun y z c a b => I.ok.inj y z c (cm a).1 (cm b).1) (PySem.mem_of_lookup e1) (PySem.mem_of_lookup e2)
      rw [Heap.size_push]
      exact Nat.lt_succ_of_lt (cm (y := p.1) (c := p.2) hp).2
    · show ∃ c, cenv.cells.lookup y = some c
      have key : ∀ k, cenv.kindOf y = some k → (k = .cell ∨ k = .free) → ∃ c, cenv.cells.lookup y = some c := fun k hk hk' => by
        unfold Env.kindOf at hk
        rw [hsc] at hk
        obtain ⟨k', e, r⟩ := lookup_relS hk
        have : k' = .cell ∨ k' = .free := by
          rcases r with rfl | ⟨rfl, _⟩
          · exact hk'
          · exact .inr rfl
        rcases this with rfl | rfl
        · obtain ⟨c, hm⟩ := cells_has (n := (s.heap.push { cls := .type "dict", data := .dict #[] }).objs.size) (acc := cloFrom X.env.cells scope.names []) (PySem.mem_of_lookup e)
          obtain ⟨c', e'⟩ := mem_lookup hm
          exact ⟨c', by rw [hcl]; exact e'⟩
        · obtain ⟨c, h1, _⟩ := look e
          exact ⟨c, h1⟩
      rcases hy with hy | hy
      · exact key _ hy (.inl rfl)
      · exact key _ hy (.inr rfl)
    · have z : (scope.names.lookup y == some NameKind.cell) = true := z
      have z : scope.names.lookup y = some .cell := by simpa using z
      have e : cenv.cells.lookup y = some c := e
      rw [hcl] at e
      rcases cells_mem (PySem.mem_of_lookup e) with hm | ⟨_, h2, _⟩
      · rcases cloFrom_mem hm with hm | ⟨h1, _⟩
        · cases hm
        · have q := ok.uniq _ h1
          rw [z] at q; cases q
      · rw [Heap.size_push] at h2
        exact Nat.le_of_succ_le h2
    · show b ≠ cenv.locals
      rw [hL]; exact Nat.ne_of_lt (hfp b hb).2
    · have e : cenv.cells.lookup y = some c := e
      rcases mem e with ⟨h1, _⟩ | ⟨h1, _⟩
      · exact (hfp b hb).1.2.2.2.2.1 y c h1 z
      · have h2 : s.heap.objs.size + 1 ≤ b := by rw [← z]; exact h1
        exact absurd (Nat.lt_of_lt_of_le (hfp b hb).2 (Nat.le_of_succ_le h2)) (Nat.lt_irrefl _)
    · rcases (hfp b hb).1.2.2.2.1 with z | z
      · exact I.ok.noex b o e z
      · exact absurd (Nat.lt_of_lt_of_le (Heap.lt_size e) (Nat.le_trans I.ok.bsz z)) (Nat.lt_irrefl _)
    · rcases List.mem_cons.mp (I.stkSub b z) with z | z
      · exact (hfp b hb).1.2.1 z
      · exact (hfp b hb).1.2.2.1 z
  refine ⟨okB, rfl, I.bare, Un.kept kp, ⟨fun _ => none, ?_, fun i y av e1 e2 e3 => ?_⟩, fun y c e => ?_, ?_, fun y c e => ?_, fun p hp => ?_, I.hok.kept kp, by rw [wipe_length]; exact I.len⟩
  · show Heap.Ns _ cenv.locals _
    rw [hL]
    exact Heap.Ns.keeps (Heap.Ns.new ..) fun b o e => pushCells_keeps _ _ _ _ e
  · obtain ⟨e2, hne⟩ := wipe_some e2
    have hfr : scope.names.lookup y = some .free ∧ (cenv.kindOf y = some .cell ∨ cenv.kindOf y = some .free) := by
      have key : ∀ k, cenv.scope.names.lookup y = some k → k = .local ∨ k = .cell ∨ k = .free → scope.names.lookup y = some .free ∧ (cenv.kindOf y = some .cell ∨ cenv.kindOf y = some .free) := fun k hk hk' => by
        have hk0 := hk
        rw [hsc] at hk
        obtain ⟨k', e, r⟩ := lookup_relS hk
        have no : ¬ (k' = .local ∨ k' = .cell) := fun hh => by
          rcases ok.own _ (PySem.mem_of_lookup e) hh with e' | e'
          · obtain ⟨p, hp, hpy⟩ := List.mem_map.mp e'
            have e3 := ok.ix p hp
            have : p.1 = y := hpy
            rw [this] at e3
            exact hne (List.mem_map.mpr ⟨p, hp, nodup_ix hN e3 e1⟩)
          · exact e' (List.mem_of_getElem? e1)
        rcases r with rfl | ⟨rfl, rfl⟩
        · rcases hk' with rfl | rfl | rfl
          · exact absurd (.inl rfl) no
          · exact absurd (.inr rfl) no
          · exact ⟨e, .inr hk0⟩
        · exact ⟨e, .inl hk0⟩
      have e3 : Vis cenv.scope y := e3
      rcases e3 with e3 | e3 | e3
      · exact key _ e3 (.inl rfl)
      · exact key _ e3 (.inr (.inl rfl))
      · exact key _ e3 (.inr (.inr rfl))
    obtain ⟨m, hn, hl⟩ := I.loc
    have hvis : Vis X.env.scope y := (ok.free _ (PySem.mem_of_lookup hfr.1) rfl).elim (fun k => .inr (.inl k)) (fun k => .inr (.inr k))
    obtain ⟨w, r, q⟩ := hl i y av e1 e2 hvis
    refine ⟨w, r, .inr ⟨hfr.2, ?_⟩⟩
    obtain ⟨c, h1, h2⟩ := look hfr.1
    rcases q with ⟨k, _⟩ | ⟨_, c', e', z⟩
    · have k : X.env.scope.names.lookup y = some .local := k
      rcases ok.free _ (PySem.mem_of_lookup hfr.1) rfl with k' | k' <;> rw [show X.env.scope.names.lookup y = _ from k'] at k <;> cases k
    · rw [h2] at e'; cases e'
      exact ⟨c, h1, z.keeps kp⟩
  · have e : cenv.cells.lookup y = some c := e
    rcases mem e with ⟨h1, _⟩ | ⟨_, z⟩
    · obtain ⟨w, z⟩ := I.cell y c h1
      exact ⟨w, z.keeps kp⟩
    · exact ⟨_, z⟩
  · show H cenv.locals = none
    rw [hL]; exact I.hok.fresh (Nat.le_refl _)
  · have e : cenv.cells.lookup y = some c := e
    rcases mem e with ⟨h1, _⟩ | ⟨h1, _⟩
    · exact I.freeC y c h1
    · exact I.hok.fresh (Nat.le_of_succ_le h1)
  · exact absurd (show p ∈ ([] : List (Addr × Obj)) ++ [] from hp) (by simp)
/-- an item appended to a tracked list -/
theorem app_ok {E : Value → Shared → Prop} {D : Addr} {xs : List V} {y : V} {v : Value} {Q : Value → Shared → Prop} (I : Inv X pins σ H s) (hD : H D = some (.lst xs)) (hz : xs.length < sizeLine) (r : RelV y v)
    (h : ∀ s', Inv X pins σ (upd H D (.lst (xs ++ [y]))) s' → Q .none s') : wpAny (model X.prog X.w) X.A (call (.builtin "list.append") [.ref D, v]) Q E s := by
  obtain ⟨hz', its, n, ri, e⟩ := I.hok D _ hD
  have hl := ri.length
  refine append_at (hsz := by rw [List.size_toArray]; omega) e fun h' sb ho' => ?_
  refine h { s with heap := h' } (I.write (t' := s.toks) (by rw [hD]; trivial) (.inl rfl) (fun b u hb q => (sb.2 b hb).trans q) ⟨_, ho'⟩ ⟨by rw [List.length_append]; exact hz, its ++ [v], n + 1, ri.append (.cons r .nil), ?_⟩)
  rw [ho']
  simp
/-- a clause's tests -/
def PTs (X : Cx) (ifs : List Expr) (t : TT) : Prop :=
  ∀ (pins : List (Addr × Obj)) (s : Shared) (σ : St) (H : Hp) (Q : Bool → Hp → Prop), Inv X pins σ H s → t σ H Q →
    wpAny (model X.prog X.w) X.A (forIn ifs true fun c r => if r = true then do let ok ← isTrue c X.env (eval c X.env); pure (ForInStep.yield ok) else pure (ForInStep.yield r)) (TP X pins σ Q) X.xe s
def tYes : TT := fun _ H Q => Q true H
theorem pts_nil : PTs X [] tYes := fun _ _ _ H _ I h => wpAny_tests_nil ⟨H, I, h⟩
end
theorem thnF {α : Type} {t : Sem α} {Q Q' : α → Shared → Prop} {M : Model} {A : Around} {E : Value → Shared → Prop} {s : Shared} (h : wpAny M A t Q (fun _ _ => False) s) (hQ : ∀ a s, Q a s → Q' a s) : wpAny M A t Q' E s := wpAny_mono h hQ fun _ _ z => False.elim z
/-- the loop of a list comprehension's block, the target of any form (codeAny_compLoop_tests asks a target that no tuple goes to; statement and proof follow it, PyProof/CompMap.lean:41-61, with the step letOwnedTupleGo kept) -/
theorem compLoop_any {prog : Program} {w : World} {A : Around} {R : Result → Shared → Prop} {s : Shared} {elt target iter : Expr} {ifs : List Expr} {scope : Scope} {pos : Pos} {it acc : Value} {env : Env} (I : Nat → Shared → Prop)
    (turn : ∀ n s, I n s → wpAny (model prog w) A (pyNext it) (fun r s₁ => match r with
      | none => R (.ok .next) s₁
      | some v => wpAny (model prog w) A (letOwnedTupleGo target it v) (fun _ s₁' => wpAny (model prog w) A (assign target env v) (fun _ s₂ =>
          wpAny (model prog w) A (forIn ifs true fun c r => if r = true then do let ok ← isTrue c env (eval c env); pure (ForInStep.yield ok) else pure (ForInStep.yield r)) (fun ok s₃ =>
            if ok = true then wpAny (model prog w) A (eval elt env) (fun x s₄ =>
              wpAny (model prog w) A (call (.builtin "list.append") [acc, x]) (fun _ s₅ => ∃ m, m < n ∧ I m s₅) (notedBy (model prog w) A env fun e s' => R (.error e) s') s₄) (notedBy (model prog w) A env fun e s' => R (.error e) s') s₃
            else ∃ m, m < n ∧ I m s₃) (notedBy (model prog w) A env fun e s' => R (.error e) s') s₂) (notedBy (model prog w) A env fun e s' => R (.error e) s') s₁') (notedBy (model prog w) A env fun e s' => R (.error e) s') s₁) (notedBy (model prog w) A env fun e s' => R (.error e) s') s)
    (n : Nat) (h : I n s) :
    codeAny (model prog w) A (.compLoop (.ListComp elt [⟨target, iter, ifs, 0⟩] scope pos) 0 it acc env) R s := by
  refine codeAny_loop rfl I (fun n s hI => ?_) n h
  show wpAny _ A ((compTurn (.ListComp elt [⟨target, iter, ifs, 0⟩] scope pos) 0 it acc env).onRaise (fun x => do noteFrame x env; theTreesLotGoes x)) _ _ s
  refine wpAny_noted ?_
  rw [compTurn_list]
  refine wpAny_bind (wpAny_standAt (wpAny_bind (wpAny_mono (turn n s hI) (fun r s₁ h₁ => ?_) fun _ _ h' => h')))
  cases r with
  | none => exact wpAny_pure h₁
  | some v =>
    refine wpAny_bind (wpAny_mono h₁ (fun _ s₁' h₁' => ?_) fun _ _ h' => h')
    refine wpAny_bind (wpAny_mono h₁' (fun _ s₂ h₂ => wpAny_bind (wpAny_mono h₂ (fun ok s₃ h₃ => ?_) fun _ _ h' => h')) fun _ _ h' => h')
    cases ok with
    | false => exact wpAny_pure ⟨rfl, h₃⟩
    | true =>
      exact wpAny_bind (wpAny_bind (wpAny_mono h₃ (fun x s₄ h₄ => wpAny_bind (wpAny_mono h₄ (fun _ s₅ h₅ => wpAny_pure (wpAny_pure ⟨rfl, h₅⟩)) fun _ _ h' => h')) fun _ _ h' => h'))
section
variable {X : Cx}
/-- [elt for target in iter if ..]: D the new list; W by the turn and a measure, Nx what a turn is to reach -/
def tLc (wi : TI) (g : TG) (tt : TT) (te : TE) (vs : List Nat) : TE := fun σ H Q => wi σ H fun J H1 => ∀ D, H1 D = none → ∃ W : Nat → Nat → Hp → Prop, (∃ m, W 0 m (upd H1 D (.lst []))) ∧ ∀ i m H, W i m H →
  (J.stop i H ∧ Q (.ref D) H) ∨ (J.go i H ∧ ∃ Nx : Hp → Prop, (∀ H', Nx H' → ∃ m', m' < m ∧ W (i + 1) m' H') ∧ ∀ x H', J.yld i H x H' → g x (wipe σ vs) H' fun σ2 H2 => wipe σ2 vs = wipe σ vs ∧ tt σ2 H2 fun b H3 =>
    if b = true then te σ2 H3 fun y H4 => ∃ acc, H4 D = some (.lst acc) ∧ acc.length < sizeLine ∧ Nx (upd H4 D (.lst (acc ++ [y]))) else Nx H3)
theorem lc_core {pins : List (Addr × Obj)} {s : Shared} {σ : St} {H : Hp} {Q : VK} {elt tg iter : Expr} {ifs : List Expr} {scope : Scope} {own : List (Str × Nat)} {pos pos' : Pos} {wi : TI} {g : TG} {tt : TT} {te : TE} {use : Option (Value → Sem Unit)} {Qf : Value → Shared → Prop}
    (hc : X.calm = true) (hN : X.N.Nodup) (I : Inv X pins σ H s) (hi : PI X tg iter wi) (ok : BlkOk X.N X.env.scope scope own)
    (hg : ∀ (s : Shared) (H : Hp) (C : Addr) (cl : List (Str × Addr)) (fp : List Addr), PG (X.blk s H scope (compEnvC scope cl C X.env) fp) tg g) (ht : ∀ (s : Shared) (H : Hp) (C : Addr) (cl : List (Str × Addr)) (fp : List Addr), PTs (X.blk s H scope (compEnvC scope cl C X.env) fp) ifs tt)
    (he : ∀ (s : Shared) (H : Hp) (C : Addr) (cl : List (Str × Addr)) (fp : List Addr), PE (X.blk s H scope (compEnvC scope cl C X.env) fp) elt te) (hs : ∀ x, foldedSetIterable iter X.env x = pure x)
    (h : tLc wi g tt te (own.map (·.2)) σ H Q)
    (hRR : ∀ D C s' m H', Inv X pins σ H' s' → Q (.ref D) H' → s'.heap.Ns C m → FpOk X pins H' C → compPost (model X.prog X.w) X.A X.xe use Qf (.ref D) C (.ok .next) s') :
    wpAny (model X.prog X.w) X.A (comprehension (.ListComp elt [⟨tg, iter, ifs, 0⟩] scope pos) scope X.env pos' (newList []) false (eval iter X.env) use) Qf X.xe s := by
  have hfree : ∀ y ∈ scope.names, y.2 = .free → ∃ c, X.env.cells.lookup y.1 = some c := fun y hy e => by
    rcases ok.free y hy e with k | k
    · exact I.ok.has _ (.inl k)
    · exact I.ok.has _ (.inr k)
  refine wpAny_comprehension_free (use := use) rfl hs (closure_ok hfree) ok.kind (fun y hy e => by rw [ok.uniq y hy, e])
    (thn (hi pins s σ H _ I h) fun xv s1 hx => thn hx fun itv s2 h2 => ?_)
  obtain ⟨it, fp, tn, J, H2, e, I2, T, st2, f2, q⟩ := h2
  subst e
  refine wpAny_newObj_type (newEnv_comp ?_) (by show 0 ≤ sizeLine; decide)
  generalize hD : s2.heap.objs.size = D
  have hDn : H2 D = none := I2.hok.fresh (Nat.le_of_eq hD)
  obtain ⟨W, ⟨m0, w0⟩, turn⟩ := q D hDn
  generalize hs3 : ({ s2 with heap := s2.heap.push { cls := .type "list", data := .seq ([] : List Value).toArray } } : Shared) = s3
  have I3 : Inv X pins σ (upd H2 D (.lst [])) s3 := by
    rw [← hs3]
    refine I2.laid (t' := s2.toks) (fun b o e => Heap.get?_push_of_some _ e) (Nat.le_of_eq hD) ⟨Nat.zero_le _, [], 0, .nil, ?_⟩
    rw [← hD]
    exact Heap.get?_push_size _ rfl
  have h3 : s3.heap = s2.heap.push { cls := .type "list", data := .seq ([] : List Value).toArray } := by rw [← hs3]
  have sz : ∀ b ∈ fp, b < s2.heap.objs.size := fun b hb => by
    obtain ⟨o, e, _⟩ := T.obj _ _ st2 b hb
    exact Heap.lt_size e
  have f3 : ∀ b ∈ fp, FpOk X pins (upd H2 D (.lst [])) b ∧ b < s3.heap.objs.size := fun b hb => by
    have hlt := sz b hb
    refine ⟨⟨?_, (f2 b hb).2⟩, by rw [h3, Heap.size_push]; exact Nat.lt_succ_of_lt hlt⟩
    rw [upd_ne (by rw [← hD]; exact Nat.ne_of_lt hlt)]
    exact (f2 b hb).1
  have st3 : tn 0 s3.heap := T.keep _ _ _ st2 fun b _ o e => by rw [h3]; exact Heap.get?_push_of_some _ e
  have I4 := block_start I3 ok hN f3
  have pg := hg s3 (upd H2 D (.lst [])) s3.heap.objs.size (cellsFrom (s3.heap.objs.size + 1) scope.names (cloFrom X.env.cells scope.names [])) fp
  have pt := ht s3 (upd H2 D (.lst [])) s3.heap.objs.size (cellsFrom (s3.heap.objs.size + 1) scope.names (cloFrom X.env.cells scope.names [])) fp
  have pe := he s3 (upd H2 D (.lst [])) s3.heap.objs.size (cellsFrom (s3.heap.objs.size + 1) scope.names (cloFrom X.env.cells scope.names [])) fp
  show codeAny _ _ (.compStart (.ListComp elt [⟨tg, iter, ifs, 0⟩] scope pos) 0 (.ref it) (.ref D) (compEnvC scope (cellsFrom (s3.heap.objs.size + 1) scope.names (cloFrom X.env.cells scope.names [])) s3.heap.objs.size X.env)) (compPost (model X.prog X.w) X.A X.xe use Qf (.ref D) s3.heap.objs.size) { s3 with heap := pushCells (s3.heap.push { cls := .type "dict", data := .dict #[] }) scope.names }
  have nfp : ∀ b ∈ fp, (upd H2 D (.lst [])) b = none := fun b hb => (f3 b hb).1.1
  generalize hce : compEnvC scope (cellsFrom (s3.heap.objs.size + 1) scope.names (cloFrom X.env.cells scope.names [])) s3.heap.objs.size X.env = ce at I4 pg pt pe ⊢
  have cL : ce.locals = s3.heap.objs.size := by subst hce; rfl
  generalize hH3 : upd H2 D (.lst []) = H3 at I3 I4 pg pt pe w0 nfp f3
  generalize hs4 : ({ s3 with heap := pushCells (s3.heap.push { cls := .type "dict", data := .dict #[] }) scope.names } : Shared) = s4 at I4 ⊢
  have st4 : tn 0 s4.heap := T.keep _ _ _ st3 fun b _ o e => by rw [← hs4]; exact pushCells_keeps _ _ _ _ (Heap.get?_push_of_some _ e)
  have stat : ∀ {σ' : St} {H' : Hp} {s' : Shared}, Inv (X.blk s3 H3 scope ce fp) [] σ' H' s' → (∀ b ∈ fp, H' b = none) → ∀ b ∈ fp, FpOk (X.blk s3 H3 scope ce fp) [] H' b := fun {σ' H' s'} I' hn b hb =>
    ⟨hn b hb, (I'.ok.exf b hb).1, I'.ok.exfs b hb, .inl hb, fun x c e => (I'.ok.exf b hb).2 x c e, fun p hp => absurd (show p ∈ ([] : List (Addr × Obj)) ++ [] from hp) (by simp)⟩
  have loop : codeAny (model X.prog X.w) X.A (.compLoop (.ListComp elt [⟨tg, iter, ifs, 0⟩] scope pos) 0 (.ref it) (.ref D) ce) (compPost (model X.prog X.w) X.A X.xe use Qf (.ref D) s3.heap.objs.size) s4 := by
    refine compLoop_any (fun n s' => ∃ i H', Inv (X.blk s3 H3 scope ce fp) [] (wipe σ (own.map (·.2))) H' s' ∧ tn i s'.heap ∧ (∀ b ∈ fp, H' b = none) ∧ W i n H') ?_ m0 ⟨0, H3, I4, st4, nfp, w0⟩
    rintro n s5 ⟨i, H5, I5, st5, n5, w5⟩
    rcases turn i n H5 w5 with ⟨stop, qq⟩ | ⟨go, Nx, hNx, step⟩
    · have td := T.done (X.blk s3 H3 scope ce fp) rfl rfl rfl hc i [] s5 _ H5 (fun _ _ => False) I5 (stat I5 n5) st5 stop
      refine thnF td fun r s6 ⟨hr, I6⟩ => ?_
      subst hr
      have I7 : Inv X pins σ H5 s6 := I3.call' (ch := fp) I6.os I6.base I6.hok I6.bare fun b hb => ⟨(f3 b hb).1.2.2.2.1, (f3 b hb).1.2.1, (f3 b hb).1.2.2.2.2.1, (f3 b hb).1.2.2.2.2.2⟩
      have nC : H5 s3.heap.objs.size = none := by
        have z : H5 ce.locals = none := I6.free
        rw [cL] at z
        exact z
      obtain ⟨m, hn, _⟩ := I6.loc
      have hn : s6.heap.Ns ce.locals m := hn
      rw [cL] at hn
      exact hRR D s3.heap.objs.size s6 m H5 I7 qq hn (I3.fpOk (Nat.le_refl _) nC)
    · have ti := T.item (X.blk s3 H3 scope ce fp) rfl rfl rfl hc i [] s5 _ H5 (fun _ _ => False) I5 (stat I5 n5) st5 go
      refine thnF ti fun r s6 ⟨u, hr, h6⟩ => ?_
      subst hr
      refine thnF h6 fun _ s7 ⟨x, H7, I7, r7, y7, st7, n7⟩ => ?_
      have I7' := I7.pinned (stat I7 n7) (T.obj _ _ st7)
      refine thnF (pg _ s7 _ H7 x u _ I7' r7 (step x H7 y7)) fun _ s8 ⟨σ8, H8, I8, hw8, q8⟩ => ?_
      refine thnF (pt _ s8 σ8 H8 _ I8 q8) fun b s9 ⟨H9, I9, q9⟩ => ?_
      have fin : ∀ {s' : Shared} {H' : Hp}, Inv (X.blk s3 H3 scope ce fp) ([] ++ pinsAt fp s7.heap) σ8 H' s' → Nx H' → ∃ m, m < n ∧ ∃ i H', Inv (X.blk s3 H3 scope ce fp) [] (wipe σ (own.map (·.2))) H' s' ∧ tn i s'.heap ∧ (∀ b ∈ fp, H' b = none) ∧ W i m H' := fun {s' H'} I' nx => by
        obtain ⟨m', hm, w'⟩ := hNx H' nx
        have pin' : ∀ b ∈ fp, ∀ o, s7.heap.get? b = some o → s'.heap.get? b = some o ∧ H' b = none := fun b hb o e =>
          let z := I'.pin (b, o) (List.mem_append_right _ (List.mem_append_right _ (mem_pinsAt hb e)))
          ⟨z.1, z.2.1⟩
        have hl : (wipe σ (own.map (·.2))).length = σ8.length := by rw [← hw8, wipe_length]
        refine ⟨m', hm, i + 1, H', (I'.unpinned (pins := [])).weak hl (fun j v e => ?_), T.keep _ _ _ st7 fun b hb o e => (pin' b hb o e).1, fun b hb => ?_, w'⟩
        · rw [← hw8] at e
          exact (wipe_some e).1
        · obtain ⟨o, e, _⟩ := T.obj _ _ st7 b hb
          exact (pin' b hb o e).2
      cases b with
      | false =>
        simp only [Bool.false_eq_true, if_false] at q9 ⊢
        exact fin I9 q9
      | true =>
        simp only [if_true] at q9 ⊢
        refine thnF (pe _ s9 σ8 H9 _ I9 q9) fun z s10 ⟨yv, H10, I10, r10, acc, hD10, hz10, nx⟩ => ?_
        exact app_ok (X := X.blk s3 H3 scope ce fp) I10 hD10 hz10 r10 fun s11 I11 => fin I11 nx
  exact codeAny_compStart_list loop (T.self X.A 0 _ _ _ st4 loop)
/-- as a value -/
theorem pe_lc {elt tg iter : Expr} {ifs : List Expr} {scope : Scope} {own : List (Str × Nat)} {pos : Pos} {wi : TI} {g : TG} {tt : TT} {te : TE} (hc : X.calm = true) (hN : X.N.Nodup) (hi : PI X tg iter wi) (ok : BlkOk X.N X.env.scope scope own)
    (hg : ∀ (s : Shared) (H : Hp) (C : Addr) (cl : List (Str × Addr)) (fp : List Addr), PG (X.blk s H scope (compEnvC scope cl C X.env) fp) tg g) (ht : ∀ (s : Shared) (H : Hp) (C : Addr) (cl : List (Str × Addr)) (fp : List Addr), PTs (X.blk s H scope (compEnvC scope cl C X.env) fp) ifs tt)
    (he : ∀ (s : Shared) (H : Hp) (C : Addr) (cl : List (Str × Addr)) (fp : List Addr), PE (X.blk s H scope (compEnvC scope cl C X.env) fp) elt te) (hs : ∀ x, foldedSetIterable iter X.env x = pure x := by intro _; rfl) :
    PE X (.ListComp elt [⟨tg, iter, ifs, 0⟩] scope pos) (tLc wi g tt te (own.map (·.2))) := by
  intro pins s σ H Q I h
  rw [eval_ListComp]
  refine lc_core hc hN I hi ok hg ht he hs h fun D C s' m H' I' q hn f => ⟨m, hn, fun h'' sb => ?_⟩
  obtain ⟨f0, f1, f2, f3, f4, f5⟩ := f
  exact ⟨.ref D, H', I'.turned (t' := s'.toks) (fun b o hb e => (sb.2 b hb).trans e) f0 f1 f3 f4 f5, rfl, q⟩
end
/-- over a range: Pv by the turn and the heap (the new list at D within) -/
theorem lc_range {lo : Int} {n : Nat} {g : TG} {tt : TT} {te : TE} {vs : List Nat} {σ : St} {H1 : Hp} {D : Addr} {Qd : Hp → Prop} (Pv : Nat → Hp → Prop) (h0 : Pv 0 (upd H1 D (.lst [])))
    (hs : ∀ i H, i < n → Pv i H → g (.int (lo + i)) (wipe σ vs) H fun σ2 H2 => wipe σ2 vs = wipe σ vs ∧ tt σ2 H2 fun b H3 =>
      if b = true then te σ2 H3 fun y H4 => ∃ acc, H4 D = some (.lst acc) ∧ acc.length < sizeLine ∧ Pv (i + 1) (upd H4 D (.lst (acc ++ [y]))) else Pv (i + 1) H3) (hd : ∀ H, Pv n H → Qd H) :
    ∃ W : Nat → Nat → Hp → Prop, (∃ m, W 0 m (upd H1 D (.lst []))) ∧ ∀ i m H, W i m H →
      ((Itr lo n).stop i H ∧ Qd H) ∨ ((Itr lo n).go i H ∧ ∃ Nx : Hp → Prop, (∀ H', Nx H' → ∃ m', m' < m ∧ W (i + 1) m' H') ∧ ∀ x H', (Itr lo n).yld i H x H' → g x (wipe σ vs) H' fun σ2 H2 => wipe σ2 vs = wipe σ vs ∧ tt σ2 H2 fun b H3 =>
        if b = true then te σ2 H3 fun y H4 => ∃ acc, H4 D = some (.lst acc) ∧ acc.length < sizeLine ∧ Nx (upd H4 D (.lst (acc ++ [y]))) else Nx H3) := by
  refine ⟨fun i m H => m = n - i ∧ i ≤ n ∧ Pv i H, ⟨n, by simp, Nat.zero_le _, h0⟩, ?_⟩
  rintro i m H ⟨rfl, hi, p⟩
  by_cases hlt : i < n
  · refine .inr ⟨hlt, Pv (i + 1), fun H' p' => ⟨n - (i + 1), by omega, rfl, hlt, p'⟩, fun x H' y => ?_⟩
    obtain ⟨e, y⟩ := y
    subst e y
    exact hs i _ hlt p
  · have e : i = n := by omega
    subst e
    exact .inl ⟨Nat.le_refl _, hd H p⟩
def blkC (N : List Str) (sc scope : Scope) (own : List (Str × Nat)) : Bool :=
  (match scope.kind with | .function => true | _ => false) && (scope.names.all fun y => decide (scope.names.lookup y.1 = some y.2)) && (own.all fun p => decide (N[p.2]? = some p.1)) &&
    (scope.names.all fun y => match y.2 with
      | .free => (match sc.names.lookup y.1 with | some .cell => true | some .free => true | _ => false)
      | .local => decide (y.1 ∈ own.map (·.1)) || decide (y.1 ∉ N)
      | .cell => decide (y.1 ∈ own.map (·.1)) || decide (y.1 ∉ N)
      | _ => true)
theorem blkOk_by {N : List Str} {sc scope : Scope} {own : List (Str × Nat)} (h : blkC N sc scope own = true) : BlkOk N sc scope own := by
  unfold blkC at h
  simp only [Bool.and_eq_true, List.all_eq_true, decide_eq_true_eq] at h
  obtain ⟨⟨⟨h1, h2⟩, h3⟩, h4⟩ := h
  refine ⟨?_, h2, h3, fun y hy e => ?_, fun y hy e => ?_⟩
  · split at h1
    · assumption
    · cases h1
  · have q := h4 y hy
    simp only [e] at q
    split at q <;> first | exact .inl (by assumption) | exact .inr (by assumption) | cases q
  · have q := h4 y hy
    rcases e with e | e <;> (simp only [e, Bool.or_eq_true, decide_eq_true_eq] at q; exact q)
end L2
namespace L2
open PySem PySem.Spec PyProof.Rows
section
variable {prog : Program} {w : World} {A : Around} {R : Result → Shared → Prop} {s : Shared} {elt t0 i0 t1 i1 : Expr} {ifs0 ifs1 : List Expr} {scope : Scope} {pos : Pos} {it acc : Value} {env : Env}
end
section
variable {X : Cx}
end
end L2
namespace L2
open PySem PySem.Spec PyProof.Rows
section
variable {κ : Type} [DecidableEq κ]
def valV (kvs : List (κ × V)) (k : κ) : Option V := (kvs.find? fun kv => decide (kv.1 = k)).map (·.2)
/-- in its place, or at the end -/
def putK (kvs : List (κ × V)) (k : κ) (v : V) : List (κ × V) :=
  if (kvs.any fun kv => decide (kv.1 = k)) = true then kvs.map (fun kv => if kv.1 = k then (kv.1, v) else kv) else kvs ++ [(k, v)]
def dropK (kvs : List (κ × V)) (k : κ) : List (κ × V) := kvs.filter fun kv => decide (kv.1 ≠ k)
theorem valV_pos {p : κ × V} {r : List (κ × V)} {k : κ} (e : p.1 = k) : valV (p :: r) k = some p.2 := by simp [valV, List.find?_cons, e]
theorem valV_neg {p : κ × V} {r : List (κ × V)} {k : κ} (e : ¬ p.1 = k) : valV (p :: r) k = valV r k := by simp [valV, List.find?_cons, e]
theorem valV_any (k : κ) : ∀ kvs : List (κ × V), (kvs.any fun kv => decide (kv.1 = k)) = (valV kvs k).isSome
  | [] => rfl
  | p :: r => by
    rw [List.any_cons]
    by_cases e : p.1 = k
    · simp only [valV_pos e, decide_eq_true e, Bool.true_or, Option.isSome_some]
    · rw [valV_neg e, decide_eq_false e, Bool.false_or]; exact valV_any k r
theorem length_putK (kvs : List (κ × V)) (k : κ) (v : V) : (putK kvs k v).length ≤ kvs.length + 1 := by
  unfold putK
  split
  · rw [List.length_map]; omega
  · rw [List.length_append, List.length_cons, List.length_nil]; omega
theorem RelO.isSome_eq {o : Option V} {u : Option Value} (r : RelO o u) : o.isSome = u.isSome := by
  cases o with
  | none => cases u with
    | none => rfl
    | some _ => exact (show False from r).elim
  | some _ => cases u with
    | none => exact (show False from r).elim
    | some _ => rfl
theorem RelO.getD {o : Option V} {u : Option Value} {d : V} {d' : Value} (r : RelO o u) (rd : RelV d d') : RelV (o.getD d) (u.getD d') := by
  cases o with
  | none => cases u with
    | none => exact rd
    | some _ => exact (show False from r).elim
  | some _ => cases u with
    | none => exact (show False from r).elim
    | some _ => exact r
/-- raw tables of the same keys -/
theorem KV.val {kvs : List (κ × V)} {vs : List (κ × Value)} (r : KV kvs vs) (k : κ) : RelO (valV kvs k) (valueAt vs k) := by
  unfold KV at r
  induction r with
  | nil => exact True.intro
  | @cons p q ps qs h t ih =>
    obtain ⟨h1, h2⟩ := h
    by_cases e : p.1 = k
    · have e' : q.1 = k := h1.symm.trans e
      have b : valueAt (q :: qs) k = some q.2 := by simp [valueAt, List.find?_cons, e']
      rw [valV_pos e, b]; exact h2
    · have e' : ¬ q.1 = k := fun z => e (h1.trans z)
      have b : valueAt (q :: qs) k = valueAt qs k := by simp [valueAt, List.find?_cons, e']
      rw [valV_neg e, b]; exact ih
theorem KV.any {kvs : List (κ × V)} {vs : List (κ × Value)} (r : KV kvs vs) (k : κ) : (kvs.any fun kv => decide (kv.1 = k)) = vs.any fun kv => decide (kv.1 = k) := by
  unfold KV at r
  induction r with
  | nil => rfl
  | cons h t ih => rw [List.any_cons, List.any_cons, ih, h.1]
theorem KV.repl {kvs : List (κ × V)} {vs : List (κ × Value)} (r : KV kvs vs) (k : κ) {y : V} {u : Value} (ry : RelV y u) :
    KV (kvs.map fun kv => if kv.1 = k then (kv.1, y) else kv) (vs.map fun kv => if kv.1 = k then (kv.1, u) else kv) := by
  unfold KV at r ⊢
  induction r with
  | nil => exact .nil
  | @cons p q ps qs h t ih =>
    rw [List.map_cons, List.map_cons]
    refine .cons ?_ ih
    obtain ⟨h1, h2⟩ := h
    by_cases e : p.1 = k
    · rw [if_pos e, if_pos (h1.symm.trans e)]; exact ⟨h1, ry⟩
    · rw [if_neg e, if_neg (fun z => e (h1.trans z))]; exact ⟨h1, h2⟩
theorem KV.put {kvs : List (κ × V)} {vs : List (κ × Value)} (r : KV kvs vs) (k : κ) {y : V} {u : Value} (ry : RelV y u) : KV (putK kvs k y) (stored vs k u) := by
  unfold putK stored
  rw [r.any k]
  by_cases e : (vs.any fun kv => decide (kv.1 = k)) = true
  · rw [if_pos e, if_pos e]; exact r.repl k ry
  · rw [if_neg e, if_neg e]; exact Paired.snoc r ⟨rfl, ry⟩
theorem KV.length {kvs : List (κ × V)} {vs : List (κ × Value)} (r : KV kvs vs) : kvs.length = vs.length := Paired.length r
theorem dropK_le (kvs : List (κ × V)) (k : κ) : (dropK kvs k).length ≤ kvs.length := List.length_filter_le _ _
end
theorem kV_is {P : Program} {w : World} {k : Key} {u : Value} (r : RelV (kV k) u) : (mixKind P w).is k u = true := by
  cases k with
  | inl i => obtain ⟨t, e⟩ := (show ∃ t, u = Value.int i t from r); subst e; exact mixKind_int P w i t
  | inr x => obtain ⟨t, e⟩ := (show ∃ t, u = Value.str x t from r); subst e; exact mixKind_str P w x t
theorem items_are {P : Program} {w : World} : ∀ {ks : List Key} {us : List Value}, Vals (ks.map kV) us → ItemsAre (mixKind P w) ks us
  | [], _, r => by rw [List.map_nil] at r; cases r; exact .nil
  | k :: ks, _, r => by
    rw [List.map_cons] at r
    cases r with
    | cons h t => exact .cons (kV_is h) (items_are t)
/-- raw entries of a dict with tuple keys -/
abbrev KT (H : Hp) : List (List Key × V) → List (List Key × Addr × Value) → Prop := Paired fun p q => p.1 = q.1 ∧ H q.2.1 = some (.tup (p.1.map kV)) ∧ RelV p.2 q.2.2
theorem KT.val {H : Hp} {kvs : List (List Key × V)} {xs : List (List Key × Addr × Value)} (r : KT H kvs xs) (k : List Key) : RelO (valV kvs k) ((atKey xs k).map (·.2)) := by
  induction r with
  | nil => exact True.intro
  | @cons p q ps qs h t ih =>
    obtain ⟨h1, _, h2⟩ := h
    by_cases e : p.1 = k
    · have e' : q.1 = k := h1.symm.trans e
      have b : atKey (q :: qs) k = some q.2 := by simp [atKey, List.find?_cons, e']
      rw [valV_pos e, b]; exact h2
    · have e' : ¬ q.1 = k := fun z => e (h1.trans z)
      have b : atKey (q :: qs) k = atKey qs k := by simp [atKey, List.find?_cons, e']
      rw [valV_neg e, b]; exact ih
theorem KT.repl {H : Hp} {kvs : List (List Key × V)} {xs : List (List Key × Addr × Value)} (r : KT H kvs xs) (k : List Key) {y : V} {u : Value} (ry : RelV y u) :
    KT H (kvs.map fun kv => if kv.1 = k then (kv.1, y) else kv) (xs.map (putAt k u)) := by
  induction r with
  | nil => exact .nil
  | @cons p q ps qs h t ih =>
    rw [List.map_cons, List.map_cons]
    refine .cons ?_ ih
    obtain ⟨h1, h2, h3⟩ := h
    unfold putAt
    by_cases e : p.1 = k
    · rw [if_pos e, if_pos (h1.symm.trans e)]; exact ⟨h1, h2, ry⟩
    · rw [if_neg e, if_neg (fun z => e (h1.trans z))]; exact ⟨h1, h2, h3⟩
theorem KT.put {H : Hp} {kvs : List (List Key × V)} {xs : List (List Key × Addr × Value)} (r : KT H kvs xs) (k : List Key) {b : Addr} {y : V} {u : Value} (hb : H b = some (.tup (k.map kV))) (ry : RelV y u) :
    KT H (putK kvs k y) (storedH xs k b u) := by
  have e : (kvs.any fun kv => decide (kv.1 = k)) = (atKey xs k).isSome := by
    rw [valV_any, (r.val k).isSome_eq, Option.isSome_map]
  unfold putK storedH
  rw [e]
  by_cases q : (atKey xs k).isSome = true
  · rw [if_pos q, if_pos q]; exact r.repl k ry
  · rw [if_neg q, if_neg q]; exact Paired.snoc r ⟨rfl, hb, ry⟩
theorem KT.keeps {H H' : Hp} {kvs : List (List Key × V)} {xs : List (List Key × Addr × Value)} (r : KT H kvs xs) (ht : ∀ b ys, H b = some (.tup ys) → H' b = some (.tup ys)) : KT H' kvs xs :=
  Paired.mapP r fun _ _ z => ⟨z.1, ht _ _ z.2.1, z.2.2⟩
section
variable {P : Program} {w : World} {H : Hp} {h : Heap} {a : Addr}
theorem rd_of {u : HO} (ok : HOk P w H h) (e : Rd H a u) : ObjOk P w H h a u := e.ok ok
theorem dk_rd {kvs : List (Key × V)} (ok : HOk P w H h) (e : Rd H a (.dK kvs)) : kvs.length ≤ sizeLine ∧ (a == sysModules) = false ∧ ∃ vs, KV kvs vs ∧ h.DictOf (mixKind P w) a vs :=
  show ObjOk P w H h a (.dK kvs) from rd_of ok e
theorem dk_of {kvs : List (Key × V)} (ok : HOk P w H h) (e : H a = some (.dK kvs)) : kvs.length ≤ sizeLine ∧ (a == sysModules) = false ∧ ∃ vs, KV kvs vs ∧ h.DictOf (mixKind P w) a vs := dk_rd ok (.inl e)
/-- a tracked tuple of ints and texts is a key -/
theorem key_of {ks : List Key} (ok : HOk P w H h) (e : H a = some (.tup (ks.map kV))) : (tupleKind (mixKind P w)).is h ks a := by
  obtain ⟨_, its, r, o, h1, h2, n, h3⟩ := (show ObjOk P w H h a (.tup (ks.map kV)) from ok a _ e)
  exact ⟨o, its.toArray, n, h1, h2, h3, by simpa using items_are r⟩
theorem dt_rd {kvs : List (List Key × V)} (ok : HOk P w H h) (e : Rd H a (.dT kvs)) : kvs.length ≤ sizeLine ∧ (a == sysModules) = false ∧
    ∃ xs, KT H kvs xs ∧ h.DictOfH (tupleKind (mixKind P w)) a xs := by
  obtain ⟨z, y, xs, r, o, es, ep, h1, h2, h3, h4, h5⟩ := (show ObjOk P w H h a (.dT kvs) from rd_of ok e)
  refine ⟨z, y, xs, r, o, es, ep, h1, h2, h3, h4, fun x hx => ?_, h5⟩
  have all : ∀ {l : List (List Key × V)} {m : List (List Key × Addr × Value)}, KT H l m → ∀ x ∈ m, (tupleKind (mixKind P w)).is h x.1 x.2.1 := by
    intro l m q
    induction q with
    | nil => intro x hx; exact nomatch hx
    | @cons p q ps qs hq t ih =>
      intro x hx
      rcases List.mem_cons.mp hx with e | hx
      · subst e
        exact key_of ok (by rw [← hq.1]; exact hq.2.1)
      · exact ih x hx
  exact all r x hx
theorem dt_of {kvs : List (List Key × V)} (ok : HOk P w H h) (e : H a = some (.dT kvs)) : kvs.length ≤ sizeLine ∧ (a == sysModules) = false ∧
    ∃ xs, KT H kvs xs ∧ h.DictOfH (tupleKind (mixKind P w)) a xs := dt_rd ok (.inl e)
end
/-- what the dict at a holds at the key y -/
def DGet (H : Hp) (a : Addr) (y : V) (r : Option V) : Prop :=
  (∃ kvs k, Rd H a (.dK kvs) ∧ y = kV k ∧ r = valV kvs k) ∨ ∃ kvs k b, Rd H a (.dT kvs) ∧ y = .ref b ∧ H b = some (.tup (k.map kV)) ∧ r = valV kvs k
/-- the heap behind a[y] = v -/
def DPut (H : Hp) (a : Addr) (y v : V) (H' : Hp) : Prop :=
  (∃ kvs k, H a = some (.dK kvs) ∧ y = kV k ∧ kvs.length < sizeLine ∧ H' = upd H a (.dK (putK kvs k v))) ∨
  ∃ kvs k b, H a = some (.dT kvs) ∧ y = .ref b ∧ H b = some (.tup (k.map kV)) ∧ kvs.length < sizeLine ∧ H' = upd H a (.dT (putK kvs k v))
theorem DGet.t {H : Hp} {a b : Addr} {kvs : List (List Key × V)} {k : List Key} (e : H a = some (.dT kvs)) (eb : H b = some (.tup (k.map kV))) : DGet H a (.ref b) (valV kvs k) := .inr ⟨kvs, k, b, .inl e, rfl, eb, rfl⟩
theorem DPut.t {H : Hp} {a b : Addr} {kvs : List (List Key × V)} {k : List Key} {v : V} (e : H a = some (.dT kvs)) (eb : H b = some (.tup (k.map kV))) (hl : kvs.length < sizeLine) :
    DPut H a (.ref b) v (upd H a (.dT (putK kvs k v))) := .inr ⟨kvs, k, b, e, rfl, eb, hl, rfl⟩
section
variable {X : Cx} {pins : List (Addr × Obj)} {σ : St} {H : Hp} {s : Shared} {a : Addr} {y v : V} {u r : Value} {o : Option V} {A : Around} {E : Value → Shared → Prop}
theorem Inv.big (I : Inv X pins σ H s) : sysModules < s.heap.objs.size := by
  have h : mainGlobals < s.heap.objs.size := (I.mod.glob.keeps I.bk).lt
  exact Nat.lt_trans (by decide) h
/-- d[y], there -/
theorem d_getItem {Q : Value → Shared → Prop} (hu : A.units + 1 < cLine) (I : Inv X pins σ H s) (g : DGet H a y (some v)) (ry : RelV y u) (h : ∀ w' s', Inv X pins σ H s' → RelV v w' → Q w' s') :
    wpAny (model X.prog X.w) A (getItem (.ref a) u) Q E s := by
  rcases g with ⟨kvs, k, e, ey, l⟩ | ⟨kvs, k, b, e, ey, eb, l⟩
  · subst ey
    obtain ⟨z, hd, vs, rel, dd⟩ := dk_rd I.hok e
    obtain ⟨w', hw, rw'⟩ := RelO.some_of (v := v) (o := valueAt vs k) (by rw [l]; exact rel.val k)
    exact wpAny_getItem_of (kV_is ry) dd.mapOf hw (h w' _ (I.tok _) rw')
  · subst ey
    cases (show u = Value.ref b from ry)
    obtain ⟨z, hd, xs, rel, dd⟩ := dt_rd I.hok e
    obtain ⟨w', hw, rw'⟩ := RelO.some_of (v := v) (o := (atKey xs k).map (·.2)) (by rw [l]; exact rel.val k)
    obtain ⟨p, hp, hp2⟩ := Option.map_eq_some_iff.mp hw
    refine wpAny_getItem_heap (tupleKind_room_in1 hu) (key_of I.hok eb) dd hp ?_
    rw [hp2]
    exact h w' _ (I.tok _) rw'
/-- a dict's object is replaced -/
theorem d_write {h' : Heap} {t' : Nat} {ob : HO} (I : Inv X pins σ H s) (mu : Mut (H a)) (hs : Heap.SameBut a s.heap h') (he : ∃ q, h'.get? a = some q) (new : ObjOk X.prog X.w (upd H a ob) h' a ob) :
    Inv X pins σ (upd H a ob) { s with heap := h', toks := t' } :=
  I.write (x := a) (e := a) mu (.inl rfl) (fun b q hb z => (hs.2 b hb).trans z) he new
theorem dk_new {P : Program} {w : World} {H' : Hp} {h' : Heap} {kvs : List (Key × V)} {vs : List (Key × Value)} (z : kvs.length ≤ sizeLine) (hd : (a == sysModules) = false) (rel : KV kvs vs) (dd : h'.DictOf (mixKind P w) a vs) :
    ObjOk P w H' h' a (.dK kvs) := ⟨z, hd, vs, rel, dd⟩
/-- d[y] = v -/
theorem d_setItem {H' : Hp} {Q : Unit → Shared → Prop} (hu : A.units + 1 < cLine) (I : Inv X pins σ H s) (g : DPut H a y v H') (ry : RelV y u) (rv : RelV v r) (h : ∀ s', Inv X pins σ H' s' → Q () s') :
    wpAny (model X.prog X.w) A (setItem (.ref a) u r) Q E s := by
  rcases g with ⟨kvs, k, e, ey, l, eH⟩ | ⟨kvs, k, b, e, ey, eb, l, eH⟩
  · subst ey eH
    obtain ⟨z, hd, vs, rel, dd⟩ := dk_of I.hok e
    have hz : vs.length ≤ sizeLine := by rw [← rel.length]; exact z
    have hl : (putK kvs k v).length ≤ sizeLine := by have := length_putK kvs k v; omega
    refine wpAny_setItem_pairs (hsz := hz) (kV_is ry) dd fun h' dd' hs => h _ ?_
    have he : ∃ q, h'.get? a = some q := let ⟨q, _, _, hq, _⟩ := dd'; ⟨q, hq⟩
    exact d_write I (by rw [e]; exact True.intro) hs he (dk_new hl hd (rel.put k rv) dd')
  · subst ey eH
    cases (show u = Value.ref b from ry)
    obtain ⟨z, hd, xs, rel, dd⟩ := dt_of I.hok e
    have hz : xs.length ≤ sizeLine := by rw [← Paired.length rel]; exact z
    have hl : (putK kvs k v).length ≤ sizeLine := by have := length_putK kvs k v; omega
    refine wpAny_setItem_heap (hsz := hz) (tupleKind_room_in1 hu) (key_of I.hok eb) dd fun h' dd' hs => h _ ?_
    obtain ⟨q, es, ep, hq, h2, h3, h4, _, h5⟩ := dd'
    refine d_write I (by rw [e]; exact True.intro) hs ⟨q, hq⟩ ⟨hl, hd, _, (rel.put k eb rv).keeps fun c ys ec => ?_, q, es, ep, hq, h2, h3, h4, h5⟩
    rw [upd_ne (ne_of ec e (fun z => nomatch z))]
    exact ec
end
section
variable {X : Cx} {pins : List (Addr × Obj)} {σ : St} {H : Hp} {s : Shared} {a : Addr} {kvs : List (Key × V)} {k : Key} {u : Value} {A : Around} {E : Value → Shared → Prop}
end
/-- the element of a subscription, not a slice -/
def NoSl (i : Expr) : Prop := ∀ ov iv, subscripted i false ov iv = operate [ov, iv] (getItem ov iv)
theorem subD_of {prog : Program} {w : World} {A : Around} {E : Value → Shared → Prop} {s : Shared} {env : Env} {value slice : Expr} {pos : Pos} {T id : String} {Q : Value → Shared → Prop}
    (hl : typeLookup (.type T) "__getitem__" = pure (some (.builtin id))) (hs : NoSl slice)
    (h : wpAny (model prog w) A (eval value env) (fun o s₁ => wpAny (model prog w) A (eval slice env) (fun i s₂ => s₂.TypeIs o T ∧ wpAny (model prog w) A (getItem o i) Q E s₂) E s₁) E s) :
    wpAny (model prog w) A (eval (.Subscript value slice pos) env) Q E s := by
  refine Subscript_ (wpAny_mono h (fun o s₁ h₁ => wpAny_mono h₁ (fun i s₂ h₂ => ?_) fun _ _ x => x) fun _ _ x => x)
  obtain ⟨hT, h₂⟩ := h₂
  unfold subscriptTail
  refine wpAny_bind ?_
  rw [getitemInPython_of_ne hT.not_modules]
  refine wpAny_bind (wpAny_specialOf hT hl ?_)
  have fin : wpAny (model prog w) A (subscripted slice false o i) (fun r s₃ => wpAny (model prog w) A (letTemporaryGo value o r >>= fun _ => pure r) Q E s₃) E s₂ := by
    rw [hs o i]
    exact wpAny_operating (wpAny_mono h₂ (fun r s₃ h₃ => wpAny_bind (wpAny_letTemporaryGo (wpAny_pure h₃))) fun _ _ x => x)
  first
    | exact wpAny_pure (wpAny_bind fin)
    | exact wpAny_bind (wpAny_pure (wpAny_bind fin))
    | exact wpAny_bind fin
theorem dict_typeIs {X : Cx} {pins : List (Addr × Obj)} {σ : St} {H : Hp} {s : Shared} {a : Addr} {y : V} {o : Option V} (I : Inv X pins σ H s) (g : DGet H a y o) : s.TypeIs (.ref a) "dict" := by
  rcases g with ⟨kvs, k, e, _, _⟩ | ⟨kvs, k, b, e, _, _, _⟩
  · obtain ⟨_, _, vs, _, dd⟩ := dk_rd I.hok e
    exact dd.typeIs
  · obtain ⟨_, _, xs, _, dd⟩ := dt_rd I.hok e
    exact dd.typeIs
/-- d[y] -/
def tDGet (td ty : TE) : TE := fun σ H Q => td σ H fun x H1 => ty σ H1 fun y H2 => ∃ a v, x = .ref a ∧ DGet H2 a y (some v) ∧ Q v H2
/-- d[y] = v -/
def sDPut (td ty tv : TE) : TS := fun D σ H => tv σ H fun v H1 => td σ H1 fun x H2 => ty σ H2 fun y H3 => ∃ a H4, x = .ref a ∧ DPut H3 a y v H4 ∧ D.nx σ H4
section
variable {X : Cx} {o i e value : Expr} {pos pos' tpos : Pos} {td ty tv : TE}
theorem pe_dget (hu : X.A.units + 1 < cLine) (ho : PE X o td) (hi : PE X i ty) (hs : NoSl i) : PE X (.Subscript o i pos) (tDGet td ty) := by
  intro pins s σ H Q I h
  refine subD_of PySem.F.slot_dict_getitem.lookup hs (thn (ho pins s σ H _ I h) fun u s1 ⟨x, H1, I1, rx, q1⟩ => thn (hi pins s1 σ H1 _ I1 q1) fun iv s2 ⟨y, H2, I2, ry, a, v, ex, g, q2⟩ => ?_)
  subst ex
  obtain rfl : u = Value.ref a := rx
  exact ⟨dict_typeIs I2 g, d_getItem hu I2 g ry fun w' s3 I3 rw' => ⟨v, H2, I3, rw', q2⟩⟩
theorem ps_dput (hu : X.A.units + 1 < cLine) (ho : PE X o td) (hi : PE X i ty) (hv : PE X value tv) (hs : swapsWith value (some (.Subscript o i pos')) pos.line X.env = pure false) :
    PS X (.Assign [.Subscript o i pos'] value pos) (sDPut td ty tv) := by
  intro pins s σ H D I h
  refine wpAny_Assign_Subscript (thn (hv pins s σ H _ I h) fun r s1 ⟨v, H1, I1, rv, q1⟩ => thn (ho pins s1 σ H1 _ I1 q1) fun u s2 ⟨x, H2, I2, rx, q2⟩ => thn (hi pins s2 σ H2 _ I2 q2) fun iv s3 ⟨y, H3, I3, ry, a, H4, ex, g, q3⟩ => ?_) hs
  subst ex
  obtain rfl : u = Value.ref a := rx
  exact d_setItem hu I3 g ry rv fun s4 I4 => ⟨σ, H4, I4, q3⟩
end
theorem dt_empty {P : Program} {w : World} {H : Hp} (h : Heap) (hb : sysModules < h.objs.size) : ObjOk P w H (h.push { cls := .type "dict", data := .dict #[] }) h.objs.size (.dT []) :=
  ⟨Nat.zero_le _, beq_eq_false_iff_ne.mpr (Ne.symm (Nat.ne_of_lt hb)), [], .nil, _, #[], 0, Heap.get?_push_size _ rfl, ⟨rfl, rfl, rfl⟩, rfl, rfl, List.nodup_nil⟩
def tDNewT : TE := fun _ H Q => ∀ p, H p = none → Q (.ref p) (upd H p (.dT []))
section
variable {X : Cx} {pos : Pos}
theorem pe_dnewT : PE X (.Dict [] [] pos) tDNewT := fun pins s σ H Q I h =>
  wpAny_Dict_empty ⟨.ref s.heap.objs.size, _, I.laid (a := s.heap.objs.size) (o := .dT []) (t' := s.toks) (fun _ _ q => Heap.get?_push_of_some _ q) (Nat.le_refl _) (dt_empty s.heap I.big), rfl, h _ (I.hok.fresh (Nat.le_refl _))⟩
end
structure M2 (X : Cx) (o : Expr) (m : Str) (apos : Pos) (e f : Expr) (cpos : Pos) : Prop where
  base : attributeBase o m X.env (eval o X.env) = eval o X.env
  few : ((backTo cpos (starEach [e, f] X.env)).all (fun x => !x.1) && (backToKw cpos (keywordEach [] X.env)).all (fun x => x.1.isSome)
    && decide (([e, f] : List Expr).length + ([] : List Keyword).length + (if ([] : List Keyword).isEmpty then 0 else 1) < 30)) = true
  line : (apos.endLine == cpos.line) = true
  trees : backTo cpos (starEach [e, f] X.env) = [(false, eval e X.env), (false, eval f X.env)]
/-- a is a dict, whatever its keys -/
def IsD (H : Hp) (a : Addr) : Prop := (∃ kvs, Rd H a (.dK kvs)) ∨ ∃ kvs, Rd H a (.dT kvs)
theorem isD_at {X : Cx} {pins : List (Addr × Obj)} {σ : St} {H : Hp} {s : Shared} {a : Addr} (I : Inv X pins σ H s) (d : IsD H a) :
    s.TypeIs (.ref a) "dict" ∧ (∀ b, Value.ref a = .ref b → ∃ ob, s.heap.get? b = some ob ∧ ob.dict = none) ∧ (a == sysModules) = false := by
  rcases d with ⟨kvs, e⟩ | ⟨kvs, e⟩
  · obtain ⟨_, hd, vs, _, dd⟩ := dk_rd I.hok e
    refine ⟨dd.typeIs, fun b q => ?_, hd⟩
    cases q
    obtain ⟨ob, _, _, h1, h2, _⟩ := dd
    exact ⟨ob, h1, h2.2.1⟩
  · obtain ⟨_, hd, xs, _, dd⟩ := dt_rd I.hok e
    refine ⟨dd.typeIs, fun b q => ?_, hd⟩
    cases q
    obtain ⟨ob, _, _, h1, h2, _⟩ := dd
    exact ⟨ob, h1, h2.2.1⟩
section
variable {X : Cx} {pins : List (Addr × Obj)} {σ : St} {H : Hp} {s : Shared} {a : Addr} {y d : V} {u r : Value} {o : Option V} {A : Around} {E : Value → Shared → Prop}
/-- d.get(y, x) -/
theorem d_get2 {Q : Value → Shared → Prop} (hu : A.units + 1 < cLine) (I : Inv X pins σ H s) (g : DGet H a y o) (ry : RelV y u) (rd : RelV d r) (h : ∀ w' s', Inv X pins σ H s' → RelV (o.getD d) w' → Q w' s') :
    wpAny (model X.prog X.w) A (call (.builtin "dict.get") [.ref a, u, r]) Q E s := by
  rcases g with ⟨kvs, k, e, ey, l⟩ | ⟨kvs, k, b, e, ey, eb, l⟩
  · subst ey
    obtain ⟨z, hd, vs, rel, dd⟩ := dk_rd I.hok e
    refine call_meetsIn PySem.F.slot_dict_get dd.typeIs PySem.F.entry_dict_get (PySem.F.args_dict_get_3 _ _ _) (meets_dict_get_default (mixKind X.prog X.w) a (kV_is ry) hd r) ⟨_, dd.mapOf, h _ _ (I.tok _) ?_⟩
    rw [l]
    exact (rel.val k).getD rd
  · subst ey
    cases (show u = Value.ref b from ry)
    obtain ⟨z, hd, xs, rel, dd⟩ := dt_rd I.hok e
    refine call_meetsIn PySem.F.slot_dict_get dd.typeIs PySem.F.entry_dict_get (PySem.F.args_dict_get_3 _ _ _) (meetsH_dict_get_default (tupleKind (mixKind X.prog X.w)) a b hd r) ⟨tupleKind_room_in1 hu, k, xs, key_of I.hok eb, dd, h _ _ (I.tok _) ?_⟩
    rw [l]
    exact (rel.val k).getD rd
end
def tDGet2 (td ty tx : TE) : TE := fun σ H Q => td σ H fun x H1 => ∃ a, x = .ref a ∧ IsD H1 a ∧ ty σ H1 fun y H2 => tx σ H2 fun z H3 => ∃ o, DGet H3 a y o ∧ Q (o.getD z) H3
section
variable {X : Cx} {o e f : Expr} {apos cpos : Pos} {td ty tx : TE}
theorem pe_dget2 (hu : X.A.units + 1 < cLine) (ho : PE X o td) (he : PE X e ty) (hf : PE X f tx) (m : M2 X o "get" apos e f cpos) : PE X (.Call (.Attribute o "get" apos) [e, f] [] cpos) (tDGet2 td ty tx) := by
  intro pins s σ H Q I h
  refine wpAny_Call_method m.base m.few m.line PySem.F.plainAttrs_dict PySem.F.slot_dict_get PySem.F.type_dict_get (thn (ho pins s σ H _ I h) fun u s1 ⟨x, H1, I1, rx, a, ex, d, q1⟩ => ?_)
  subst ex
  obtain rfl : u = Value.ref a := rx
  obtain ⟨t1, t2, _⟩ := isD_at I1 d
  refine ⟨t1, t2, ?_⟩
  rw [m.trees]
  refine Calls.callWith_builtin rfl (Calls.evalArgs_plain (Calls.spliced_cons (thn (he pins s1 σ H1 _ I1 q1) fun iv s2 ⟨y, H2, I2, ry, q2⟩ =>
    Calls.spliced_cons (thn (hf pins s2 σ H2 _ I2 q2) fun fv s3 ⟨z, H3, I3, rz, ov, g, q3⟩ => Calls.spliced_nil ?_))))
  exact d_get2 hu I3 g ry rz fun w' s4 I4 rw' => ⟨_, H3, I4, rw', q3⟩
end
section
variable {X : Cx} {pins : List (Addr × Obj)} {σ : St} {H : Hp} {s : Shared} {a : Addr} {kvs : List (Key × V)} {A : Around} {E : Value → Shared → Prop}
end
section
variable {X : Cx} {pins : List (Addr × Obj)} {σ : St} {H : Hp} {s : Shared} {a : Addr} {y : V} {u : Value} {A : Around} {E : Value → Shared → Prop}
end
end L2
namespace L2
open PySem PySem.Spec PyProof.Rows
section
variable {prog : Program} {w : World} {A : Around} {E : Value → Shared → Prop}
end
section
variable {X : Cx}
end
end L2
namespace L2
open PySem PySem.Spec PyProof.Rows
section
variable {X : Cx} {pins : List (Addr × Obj)} {σ : St} {H : Hp} {s : Shared} {h' : Heap}
/-- several records of ours have turned -/
theorem Inv.turnedL {t' : Nat} {ch : List Addr} (I : Inv X pins σ H s) (k : ∀ b o, b ∉ ch → s.heap.get? b = some o → h'.get? b = some o) (hf : ∀ b ∈ ch, FpOk X pins H b) : Inv X pins σ H { s with heap := h', toks := t' } := by
  have nit : ∀ b u, H b = some u → b ∉ ch := fun b u e z => by
    have q := (hf b z).1
    rw [q] at e; cases e
  refine I.step (g' := s.gens) (d' := s.drawn) (ch := ch) (fun b hb => ⟨(hf b hb).2.2.2.1, (hf b hb).2.1, (hf b hb).2.2.2.2.1, (hf b hb).2.2.2.2.2⟩) (fun b o _ _ hc e _ => k b o hc e) (fun b o _ _ hc e _ => ⟨o.slots, k b o hc e⟩)
    (fun _ _ _ _ n => n) (fun b o hc e => ⟨o, k b o hc e⟩) (fun _ _ e => e) (fun _ _ _ e => e) (fun b ps e => ⟨#[], by rw [e]; simp⟩) (fun m hm => ?_) (fun b u e => ?_) I.bare
  · obtain ⟨o, es, ep, ho, r⟩ := hm
    exact ⟨o, es, ep, k _ o (fun z => (hf _ z).2.1 rfl) ho, r⟩
  · refine (I.hok b u e).stay (fun c v hc q => k c v ?_ q) (fun _ q => q) fun _ _ q => q
    rcases hc with z | z
    · rw [z]; exact nit b u e
    · exact nit c _ z
/-- .. and one new object is laid -/
theorem Inv.turnedNew {t' : Nat} {ch : List Addr} {T : Addr} {ob : HO} (I : Inv X pins σ H s) (k : ∀ b o, b ∉ ch → s.heap.get? b = some o → h'.get? b = some o) (hf : ∀ b ∈ ch, FpOk X pins H b) (hT : s.heap.objs.size ≤ T)
    (new : ObjOk X.prog X.w (upd H T ob) h' T ob) : Inv X pins σ (upd H T ob) { s with heap := h', toks := t' } := by
  have hn : H T = none := I.hok.fresh hT
  have nit : ∀ b u, H b = some u → b ∉ ch := fun b u e z => by
    have q := (hf b z).1
    rw [q] at e; cases e
  refine I.step (g' := s.gens) (d' := s.drawn) (ch := ch) (fun b hb => ⟨(hf b hb).2.2.2.1, (hf b hb).2.1, (hf b hb).2.2.2.2.1, (hf b hb).2.2.2.2.2⟩) (fun b o _ _ hc e _ => k b o hc e) (fun b o _ _ hc e _ => ⟨o.slots, k b o hc e⟩)
    (fun b o _ e n => ?_) (fun b o hc e => ⟨o, k b o hc e⟩) (fun b xs e => ?_) (fun b o u e => ?_) (fun b ps e => ⟨#[], ?_⟩) (fun m hm => ?_) (fun b u e => ?_) I.bare
  · rw [upd_ne (Nat.ne_of_lt (Nat.lt_of_lt_of_le (Heap.lt_size e) hT))]; exact n
  · rw [upd_ne (ne_of_none e hn)]; exact e
  · rw [upd_ne (ne_of_none e hn)]; exact e
  · rw [upd_ne (ne_of_none e hn), e]; simp
  · obtain ⟨o, es, ep, ho, r⟩ := hm
    exact ⟨o, es, ep, k _ o (fun z => (hf _ z).2.1 rfl) ho, r⟩
  · by_cases hb : b = T
    · subst hb
      rw [upd_same] at e
      cases e
      exact new
    · rw [upd_ne hb] at e
      refine (I.hok b u e).stay (fun c v hc q => k c v ?_ q) (fun c q => by rw [upd_ne (ne_of_none q hn)]; exact q) fun c xs q => by rw [upd_ne (ne_of_none q hn)]; exact q
      rcases hc with z | z
      · rw [z]; exact nit b u e
      · exact nit c _ z
end
section
variable {X : Cx}
end
section
variable {X : Cx} {tg : Expr}
end
section
variable {X : Cx} {tg : Expr}
end
section
variable {prog : Program} {w : World} {A : Around} {E : Value → Shared → Prop} {s : Shared}
theorem iter_keys {d : Addr} {o : Obj} {es : Array DictEntry} {ep : Nat} {Q : Value → Shared → Prop} (hd : (d == sysModules) = false) (ho : s.heap.get? d = some o) (hc : o.ExactDict) (hdat : o.data = .dict es ep)
    (hQ : Q (.ref s.heap.objs.size) { s with heap := s.heap.push { cls := .type "dict_keyiterator", data := .fields #[.ref d, .int 0 0, .int es.size 0, .int ep 0] } }) :
    wpAny (model prog w) A (pyIter (.ref d)) Q E s := by
  have hT : s.TypeIs (.ref d) "dict" := ⟨o, ho, hc.1⟩
  refine wpAny_pyIter_slot hT F.slot_dict_iter (wpAny_call_entry F.slot_dict_iter hT F.entry_dict_iter ?_ (F.args_dict_iter_1 _))
  unfold Builtin.«dict.__iter__»
  refine wpAny_bind ?_
  unfold Builtin.Dict.dictSlotNone
  refine wpAny_bind (wpAny_notOrdered_dict hT ?_)
  show wpAny _ _ (pure (Value.ref d)) _ _ s
  refine wpAny_pure ?_
  show wpAny _ _ (Builtin.Dict.showsAll d >>= _) _ _ s
  unfold Builtin.Dict.showsAll
  rw [if_neg (by rw [hd]; exact Bool.false_ne_true)]
  refine wpAny_bind (wpAny_pure ?_)
  refine wpAny_bind (wpAny_dictEntries ho hdat ?_)
  refine wpAny_bind (wpAny_dictEpoch ho hdat ?_)
  refine wpAny_bind (wpAny_newObj_type (wpAny_pure ⟨_, rfl, "dict_keyiterator", _, ⟨_, Heap.get?_push_size _ rfl, rfl⟩, F.slot_dict_keyiterator_next.lookup, ?_⟩))
  simpa [rawInt] using hQ
theorem next_key_item {it d : Addr} {i n ep : Nat} {od : Obj} {es : Array DictEntry} {en : DictEntry} {Q : Option Value → Shared → Prop} (hit : s.heap.IsKeyIter it d i n ep) (hod : s.heap.get? d = some od) (hdd : od.data = .dict es ep)
    (hsz : es.size = n) (hx : es[i]? = some en) (hQ : ∀ h', h'.IsKeyIter it d (i + 1) n ep → Heap.SameBut it s.heap h' → Q (some en.key) { s with heap := h' }) : wpAny (model prog w) A (pyNext (.ref it)) Q E s := by
  obtain ⟨o, ho, hc, hd⟩ := id hit
  unfold pyNext
  refine wpAny_bind (wpAny_attempt (wpAny_callSpecial?_slot (name := Str.ofString "__next__") hit.typeIs F.slot_dict_keyiterator_next
    (wpAny_call_entry F.slot_dict_keyiterator_next hit.typeIs F.entry_dict_keyiterator_next ?_ (F.args_dict_keyiterator_next_1 _))))
  refine wpAny_bind (wpAny_pure ?_)
  refine wpAny_bind ?_
  refine wpAny_bind ?_
  first | refine wpAny_bind (wpAny_typeNameOfWhole_keyiter hit.typeIs (wpAny_pure ?_)) | refine wpAny_bind (wpAny_typeNameOf_keyiter hit.typeIs (wpAny_pure ?_))
  refine wpAny_bind (wpAny_fieldsOf ho hd ?_)
  have hown : Builtin.Dict_items.ownsTuple "dict_keyiterator" = false := by decide
  simp only [hown, Bool.false_eq_true, if_false]
  show wpAny _ _ (if (Value.ref d == Value.none) = true then _ else _) _ _ s
  rw [if_neg (show ¬ ((Value.ref d == Value.none) = true) from Bool.false_ne_true)]
  refine wpAny_bind (wpAny_pure ?_)
  refine wpAny_bind (wpAny_dictEntries hod hdd ?_)
  rw [if_neg (by rw [hsz]; simp)]
  refine wpAny_bind (wpAny_pure ?_)
  refine wpAny_bind (wpAny_dictEpoch hod hdd ?_)
  rw [if_neg (by simp)]
  refine wpAny_pure ?_
  obtain ⟨hlt', hen⟩ := Array.getElem?_eq_some_iff.mp hx
  simp only [show ¬ ((i : Int) < 0) from by omega, if_false, Int.toNat_natCast, Array.getElem?_eq_getElem hlt']
  refine wpAny_bind ?_
  first | refine wpAny_bind (wpAny_typeNameOfWhole_keyiter hit.typeIs (wpAny_pure ?_)) | refine wpAny_bind (wpAny_typeNameOf_keyiter hit.typeIs (wpAny_pure ?_))
  refine wpAny_bind (wpAny_isOneOf_keyiter hit.typeIs ?_)
  show wpAny _ _ (setField (.ref it) 1 (rawInt ((i : Int) + 1)) >>= _) _ _ s
  refine wpAny_bind (wpAny_setField ho hd (by simp) ?_)
  have hit' : (s.heap.update it (Obj.mapFields (·.setIfInBounds 1 (rawInt ((i : Int) + 1))))).IsKeyIter it d (i + 1) n ep :=
    ⟨_, Heap.get?_update_self _ ho (Obj.isFreed_of_fields (Obj.data_mapFields hd _)), (Obj.cls_mapFields ..).trans hc, by rw [Obj.data_mapFields hd]; simp [rawInt]⟩
  refine wpAny_bind (wpAny_holding ?_)
  refine wpAny_bind (wpAny_isOneOf_keyiter (s := { s with heap := s.heap.update it (Obj.mapFields (·.setIfInBounds 1 (rawInt ((i : Int) + 1)))) }) hit'.typeIs ?_)
  show wpAny _ _ (pure es[i].key) _ _ _
  rw [hen]
  exact wpAny_pure (wpAny_pure ⟨_, rfl, wpAny_pure (hQ _ hit' (Heap.SameBut.update ..))⟩)
theorem next_key_end {it d : Addr} {i n ep : Nat} {od : Obj} {es : Array DictEntry} {Q : Option Value → Shared → Prop} (hh : A.handled = none) (hit : s.heap.IsKeyIter it d i n ep) (hod : s.heap.get? d = some od) (hdd : od.data = .dict es ep)
    (hsz : es.size = n) (hge : n ≤ i) (hQ : ∀ h', Heap.ExtBut it s.heap h' → Q none { s with heap := h' }) : wpAny (model prog w) A (pyNext (.ref it)) Q E s := by
  obtain ⟨o, ho, hc, hd⟩ := id hit
  unfold pyNext
  refine wpAny_bind (wpAny_attempt (wpAny_callSpecial?_slot (name := Str.ofString "__next__") hit.typeIs F.slot_dict_keyiterator_next
    (wpAny_call_entry F.slot_dict_keyiterator_next hit.typeIs F.entry_dict_keyiterator_next ?_ (F.args_dict_keyiterator_next_1 _))))
  refine wpAny_bind (wpAny_pure ?_)
  refine wpAny_bind ?_
  refine wpAny_bind ?_
  first | refine wpAny_bind (wpAny_typeNameOfWhole_keyiter hit.typeIs (wpAny_pure ?_)) | refine wpAny_bind (wpAny_typeNameOf_keyiter hit.typeIs (wpAny_pure ?_))
  refine wpAny_bind (wpAny_fieldsOf ho hd ?_)
  have hown : Builtin.Dict_items.ownsTuple "dict_keyiterator" = false := by decide
  simp only [hown, Bool.false_eq_true, if_false]
  show wpAny _ _ (if (Value.ref d == Value.none) = true then _ else _) _ _ s
  rw [if_neg (show ¬ ((Value.ref d == Value.none) = true) from Bool.false_ne_true)]
  refine wpAny_bind (wpAny_pure ?_)
  refine wpAny_bind (wpAny_dictEntries hod hdd ?_)
  rw [if_neg (by rw [hsz]; simp)]
  refine wpAny_bind (wpAny_pure ?_)
  refine wpAny_bind (wpAny_dictEpoch hod hdd ?_)
  rw [if_neg (by simp)]
  refine wpAny_pure ?_
  have hge' : es.size ≤ i := by rw [hsz]; exact hge
  simp only [show ¬ ((i : Int) < 0) from by omega, if_false, Int.toNat_natCast, Array.getElem?_eq_none hge']
  refine wpAny_bind ?_
  first | refine wpAny_bind (wpAny_typeNameOfWhole_keyiter hit.typeIs (wpAny_pure ?_)) | refine wpAny_bind (wpAny_typeNameOf_keyiter hit.typeIs (wpAny_pure ?_))
  show wpAny _ _ (setField (.ref it) 0 .none >>= _) _ _ s
  refine wpAny_bind (wpAny_setField ho hd (by simp) ?_)
  show wpAny _ _ (newExc (.type "StopIteration") [] >>= _) _ _ _
  refine wpAny_bind ?_
  simp only [newExc, newTuple]
  refine wpAny_bind (wpAny_newObj_type ?_ (by size_fits))
  refine wpAny_bind (m := firstArgMember _ _) (wpAny_of_eq (a := Value.none) (by first | rfl | (simp only [firstArgMember]; rfl)) ?_)
  refine wpAny_newObj_type ?_ (by size_fits)
  simp only [raiseNew]
  refine wpAny_bind (wpAny_handled ?_)
  rw [show A.in1.handled = none from hh]
  refine wpAny_bind (wpAny_pure (wpAny_throw ?_))
  refine wpAny_bind (wpAny_isInstance (T := "StopIteration") (b := true) ⟨_, Heap.get?_push_size _ rfl, rfl⟩ isSubtype_stop ?_)
  exact wpAny_pure (hQ _ (((Heap.SameBut.update ..).extBut.push _).push _))
end
section
variable {X : Cx} {pins : List (Addr × Obj)} {σ : St} {H : Hp} {s : Shared} {d : Addr} {o : Obj}
end
section
variable {P : Program} {w : World} {K : PySem.W.Frag} {tg : Expr} {d : Addr} {o : Obj} {es : Array DictEntry} {ep : Nat}
end
section
variable {X : Cx} {tg e : Expr} {td : TE} {apos cpos : Pos}
end
theorem boot_zip5 : bootBuiltins "zip" = some (.type "zip") := by decide +kernel
end L2
section
set_option Elab.async false
set_option linter.all false
set_option maxRecDepth 100000
set_option maxHeartbeats 2000000
namespace L2
open PySem PySem.Spec PyProof.Rows
open PySem.W (WData Codec OpenSpec Well WellAll ReadsW ReadsAllW)
mutual
/-- x stands for the datum d, lists and tuples all the way -/
inductive Dw (K : PySem.W.Frag) (H : Hp) : V → WData → Prop
  | non : Dw K H .non .none
  | bl (b : Bool) : Dw K H (.bl b) (.bool b)
  | int (i : Int) : Dw K H (.int i) (.int i)
  | str (x : Str) : Dw K H (.str x) (.str x)
  | byt (b : Array UInt8) : Dw K H (.byt b) (.bytes b.toList)
  | lst {a : Addr} {xs : List V} {ds : List WData} : SqL K H a xs → DwAll K H xs ds → Dw K H (.ref a) (.list ds)
  | tup {a : Addr} {xs : List V} {ds : List WData} : SqT K H a xs → DwAll K H xs ds → Dw K H (.ref a) (.tuple ds)
inductive DwAll (K : PySem.W.Frag) (H : Hp) : List V → List WData → Prop
  | nil : DwAll K H [] []
  | cons {v : V} {vs : List V} {d : WData} {ds : List WData} : Dw K H v d → DwAll K H vs ds → DwAll K H (v :: vs) (d :: ds)
end
theorem dw_ints {K : PySem.W.Frag} {H : Hp} : ∀ ns : List Int, DwAll K H (ns.map V.int) (ns.map WData.int)
  | [] => .nil
  | n :: r => .cons (.int n) (dw_ints r)
theorem ints_dw {K : PySem.W.Frag} {H : Hp} : ∀ (ns : List Int) (xs : List V), DwAll K H xs (ns.map WData.int) → xs = ns.map V.int
  | [], xs, h => by
    cases h
    rfl
  | n :: r, xs, h => by
    cases h with
    | cons h1 h2 =>
      cases h1
      rw [ints_dw r _ h2] <;> rfl
section
variable {P : Program} {w : World} {K : PySem.W.Frag} {H : Hp} {h : Heap} {R : PySem.W.WRecords} {cl : Str → Option Addr}
theorem sqL_at {a : Addr} {xs : List V} (hok : HOk P w H h) (KX : K.In h) (q : SqL K H a xs) : ∃ (its : List Value) (o : Obj) (n : Nat), Vals xs its ∧ h.get? a = some o ∧ o.cls = .type "list" ∧ o.data = .seq its.toArray n := by
  rcases q with q | ⟨o, its, n, e, hc, _, hd, _, hv⟩
  · obtain ⟨_, its, n, hv, e⟩ := (show ObjOk P w H h a (.lst xs) from q.ok hok)
    exact ⟨its, _, n, hv, e, rfl, rfl⟩
  · exact ⟨its.toList, o, n, hv, KX _ _ e, hc, by simp [hd]⟩
theorem sqT_at {a : Addr} {xs : List V} (hok : HOk P w H h) (KX : K.In h) (q : SqT K H a xs) : ∃ (its : List Value) (o : Obj) (n : Nat), Vals xs its ∧ h.get? a = some o ∧ o.cls = .type "tuple" ∧ o.data = .seq its.toArray n := by
  rcases q with q | ⟨o, its, n, e, hc, hd, _, hv⟩
  · obtain ⟨_, its, hv, o, e, hc, n, hd⟩ := (show ObjOk P w H h a (.tup xs) from q.ok hok)
    exact ⟨its, o, n, hv, e, hc, hd⟩
  · exact ⟨its.toList, o, n, hv, KX _ _ e, hc, by simp [hd]⟩
mutual
theorem Dw.reads (hok : HOk P w H h) (KX : K.In h) : ∀ (d : WData) (v : V) (u : Value), Dw K H v d → RelV v u → ∃ as, ReadsW R cl h u d as
  | .none, _, _, x, r => by
    cases x
    cases r
    exact ⟨_, ReadsW.none⟩
  | .bool b, _, _, x, r => by
    cases x
    cases r
    exact ⟨_, ReadsW.bool b⟩
  | .int i, _, _, x, r => by
    cases x
    obtain ⟨t, rfl⟩ := r
    exact ⟨_, ReadsW.int i t⟩
  | .str s, _, _, x, r => by
    cases x
    obtain ⟨t, rfl⟩ := r
    exact ⟨_, ReadsW.str s t⟩
  | .bytes b, _, _, x, r => by
    cases x
    obtain ⟨t, rfl⟩ := r
    exact ⟨_, ReadsW.bytes _ t⟩
  | .list ds, _, _, x, r => by
    cases x with
    | lst hs ha =>
      cases r
      obtain ⟨its, o, n, rv, ho, hc, hd⟩ := sqL_at hok KX hs
      obtain ⟨as, hr⟩ := Dw.readsAll hok KX ds _ its ha rv
      exact ⟨_, ReadsW.list ho hc hd hr⟩
  | .tuple ds, _, _, x, r => by
    cases x with
    | tup hs ha =>
      cases r
      obtain ⟨its, o, n, rv, ho, hc, hd⟩ := sqT_at hok KX hs
      obtain ⟨as, hr⟩ := Dw.readsAll hok KX ds _ its ha rv
      exact ⟨_, ReadsW.tuple ho hc hd hr⟩
  | .float _, _, _, x, _ => by cases x
  | .dict _, _, _, x, _ => by cases x
  | .bytearray _, _, _, x, _ => by cases x
  | .set _, _, _, x, _ => by cases x
  | .frozenset _, _, _, x, _ => by cases x
  | .obj _ _, _, _, x, _ => by cases x
theorem Dw.readsAll (hok : HOk P w H h) (KX : K.In h) : ∀ (ds : List WData) (vs : List V) (us : List Value), DwAll K H vs ds → Vals vs us → ∃ as, ReadsAllW R cl h us ds as
  | [], _, _, x, r => by
    cases x
    cases r
    exact ⟨_, ReadsAllW.nil⟩
  | d :: ds, _, _, x, r => by
    cases x with
    | cons h1 h2 =>
      cases r with
      | cons r1 r2 =>
        obtain ⟨as, q1⟩ := Dw.reads hok KX d _ _ h1 r1
        obtain ⟨bs, q2⟩ := Dw.readsAll hok KX ds _ _ h2 r2
        exact ⟨_, ReadsAllW.cons q1 q2⟩
end
end
mutual
/-- data that a codec tells -/
def plW : WData → Bool
  | .none => true
  | .bool _ => true
  | .int _ => true
  | .str _ => true
  | .bytes _ => true
  | .list xs => plWs xs
  | .tuple xs => plWs xs
  | _ => false
def plWs : List WData → Bool
  | [] => true
  | x :: r => plW x && plWs r
end
theorem plWs_map {α : Type} {f : α → WData} (h : ∀ a, plW (f a) = true) : ∀ l : List α, plWs (l.map f) = true
  | [] => rfl
  | x :: r => by
    show (plW (f x) && plWs (r.map f)) = true
    rw [h x, plWs_map h r] <;> rfl
theorem pl_enc : ∀ (c : Codec) (a : c.denote), plW (c.enc a) = true
  | .unit, _ => rfl
  | .bool, _ => rfl
  | .int _ _, _ => rfl
  | .nat _ _, _ => rfl
  | .u8, _ => rfl
  | .bytes _ _, _ => rfl
  | .text _ _ _ _, _ => rfl
  | .list _ _ c, a => plWs_map (fun x => pl_enc c x) a
  | .pair c d, a => by
    show (plW (c.enc a.1) && (plW (d.enc a.2) && true)) = true
    rw [pl_enc c a.1, pl_enc d a.2] <;> rfl
  | .triple c d e, a => by
    show (plW (c.enc a.1) && (plW (d.enc a.2.1) && (plW (e.enc a.2.2) && true))) = true
    rw [pl_enc c a.1, pl_enc d a.2.1, pl_enc e a.2.2] <;> rfl
  | .option c, none => rfl
  | .option c, some x => pl_enc c x
theorem pl_encAll : ∀ (cs : List Codec) (a : Codec.denoteAll cs), plWs (Codec.encAll cs a) = true
  | [], _ => rfl
  | c :: cs, a => by
    show (plW (c.enc a.1) && plWs (Codec.encAll cs a.2)) = true
    rw [pl_enc c a.1, pl_encAll cs a.2] <;> rfl
theorem weight_mem : ∀ {xs : List WData} {d : WData}, d ∈ xs → d.weight ≤ WData.weightAll xs
  | [], d, h => absurd h (by simp)
  | x :: r, d, h => by
    show d.weight ≤ x.weight + 1 + WData.weightAll r
    rcases List.mem_cons.mp h with e | m
    · rw [e]
      omega
    · have z := weight_mem m
      omega
def toV : Value → V
  | .none => .non
  | .bool b => .bl b
  | .int i _ => .int i
  | .str x _ => .str x
  | .bytes b _ => .byt b
  | .ref a => .ref a
  | _ => .non
/-- a value of the arguments, its objects among A -/
def OkU (A : List Addr) : Value → Prop
  | .none => True
  | .bool _ => True
  | .int _ _ => True
  | .str _ _ => True
  | .bytes _ _ => True
  | .ref a => a ∈ A
  | _ => False
theorem OkU.mono {A B : List Addr} (h : ∀ a ∈ A, a ∈ B) : ∀ {u : Value}, OkU A u → OkU B u := fun {u} x => by
  cases u with
  | ref a => exact h a x
  | none => trivial
  | bool b => trivial
  | int i t => trivial
  | str s t => trivial
  | bytes b t => trivial
  | _ => exact False.elim x
theorem relV_toV {A : List Addr} {u : Value} (x : OkU A u) : RelV (toV u) u := by
  cases u with
  | ref a => rfl
  | none => rfl
  | bool b => rfl
  | int i t => exact ⟨t, rfl⟩
  | str s t => exact ⟨t, rfl⟩
  | bytes b t => exact ⟨t, rfl⟩
  | _ => exact False.elim x
theorem vals_toV {A : List Addr} : ∀ {vs : List Value}, (∀ u ∈ vs, OkU A u) → Vals (vs.map toV) vs
  | [], _ => .nil
  | u :: r, h => .cons (relV_toV (h u (List.mem_cons_self ..))) (vals_toV fun x hx => h x (List.mem_cons_of_mem _ hx))
/-- an object of the arguments -/
def ArgOb (h : Heap) (A : List Addr) (a : Addr) : Prop := ∃ vs : List Value, vs.length ≤ sizeLine ∧ (∀ u ∈ vs, OkU A u) ∧
  (h.get? a = some { cls := .type "list", data := .seq vs.toArray } ∨ h.get? a = some { cls := .type "tuple", data := .seq vs.toArray })
theorem ArgOb.mono {h : Heap} {A B : List Addr} {a : Addr} (k : ∀ a ∈ A, a ∈ B) (x : ArgOb h A a) : ArgOb h B a := by
  obtain ⟨vs, h1, h2, h3⟩ := x
  exact ⟨vs, h1, fun u hu => (h2 u hu).mono k, h3⟩
theorem wellAll_len {P : Params} {h : Heap} : ∀ {vs : List Value} {ds : List WData}, WellAll P h vs ds → vs.length = ds.length
  | _, _, .nil => rfl
  | _, _, .cons _ b => by
    show _ + 1 = _ + 1
    rw [wellAll_len b]
theorem well_list {P : Params} {h : Heap} {v : Value} {ds : List WData} (x : Well P h v (.list ds)) : ∃ (a : Addr) (vs : List Value), v = .ref a ∧ h.get? a = some { cls := .type "list", data := .seq vs.toArray } ∧ WellAll P h vs ds := by
  cases x with
  | list ho hall => exact ⟨_, _, rfl, ho, hall⟩
theorem well_tuple {P : Params} {h : Heap} {v : Value} {ds : List WData} (x : Well P h v (.tuple ds)) : ∃ (a : Addr) (vs : List Value), v = .ref a ∧ h.get? a = some { cls := .type "tuple", data := .seq vs.toArray } ∧ WellAll P h vs ds := by
  cases x with
  | tuple ho hall => exact ⟨_, _, rfl, ho, hall⟩
theorem well_cons {P : Params} {h : Heap} {us : List Value} {d : WData} {ds : List WData} (x : WellAll P h us (d :: ds)) : ∃ (v : Value) (vs : List Value), us = v :: vs ∧ Well P h v d ∧ WellAll P h vs ds := by
  cases x with
  | cons a b => exact ⟨_, _, rfl, a, b⟩
theorem line_of {n : Nat} (h : n ≤ 1048576) : n ≤ sizeLine := Nat.le_trans h (by decide)
section
variable {P : Params} {h : Heap}
mutual
theorem area_one : ∀ (d : WData) (v : Value), Well P h v d → plW d = true → d.weight ≤ 1048576 → ∃ A : List Addr, OkU A v ∧ ∀ a ∈ A, ArgOb h A a
  | .none, _, x, _, _ => by
    cases x
    exact ⟨[], trivial, fun a m => absurd m (by simp)⟩
  | .bool b, _, x, _, _ => by
    cases x
    exact ⟨[], trivial, fun a m => absurd m (by simp)⟩
  | .int i, _, x, _, _ => by
    cases x
    exact ⟨[], trivial, fun a m => absurd m (by simp)⟩
  | .str s, _, x, _, _ => by
    cases x
    exact ⟨[], trivial, fun a m => absurd m (by simp)⟩
  | .bytes b, _, x, _, _ => by
    cases x
    exact ⟨[], trivial, fun a m => absurd m (by simp)⟩
  | .list ds, _, x, p, z => by
    obtain ⟨a, vs, rfl, ho, hall⟩ := well_list x
    have z2 : WData.weightAll ds ≤ 1048576 := z
    obtain ⟨A, h1, h2⟩ := area_all ds _ hall p fun d hd => Nat.le_trans (weight_mem hd) z2
    have k : ∀ b ∈ A, b ∈ a :: A := fun b hb => List.mem_cons_of_mem _ hb
    refine ⟨a :: A, List.mem_cons_self .., fun b hb => ?_⟩
    rcases List.mem_cons.mp hb with e | m
    · rw [e]
      exact ⟨vs, line_of (by rw [wellAll_len hall]; exact Nat.le_trans (PySem.W.length_le_weightAllW ds) z2), fun u hu => (h1 u hu).mono k, .inl ho⟩
    · exact (h2 b m).mono k
  | .tuple ds, _, x, p, z => by
    obtain ⟨a, vs, rfl, ho, hall⟩ := well_tuple x
    have z2 : WData.weightAll ds ≤ 1048576 := z
    obtain ⟨A, h1, h2⟩ := area_all ds _ hall p fun d hd => Nat.le_trans (weight_mem hd) z2
    have k : ∀ b ∈ A, b ∈ a :: A := fun b hb => List.mem_cons_of_mem _ hb
    refine ⟨a :: A, List.mem_cons_self .., fun b hb => ?_⟩
    rcases List.mem_cons.mp hb with e | m
    · rw [e]
      exact ⟨vs, line_of (by rw [wellAll_len hall]; exact Nat.le_trans (PySem.W.length_le_weightAllW ds) z2), fun u hu => (h1 u hu).mono k, .inr ho⟩
    · exact (h2 b m).mono k
  | .float _, _, _, p, _ => Bool.noConfusion (show false = true from p)
  | .dict _, _, _, p, _ => Bool.noConfusion (show false = true from p)
  | .bytearray _, _, _, p, _ => Bool.noConfusion (show false = true from p)
  | .set _, _, _, p, _ => Bool.noConfusion (show false = true from p)
  | .frozenset _, _, _, p, _ => Bool.noConfusion (show false = true from p)
  | .obj _ _, _, _, p, _ => Bool.noConfusion (show false = true from p)
theorem area_all : ∀ (ds : List WData) (vs : List Value), WellAll P h vs ds → plWs ds = true → (∀ d ∈ ds, d.weight ≤ 1048576) → ∃ A : List Addr, (∀ u ∈ vs, OkU A u) ∧ ∀ a ∈ A, ArgOb h A a
  | [], _, x, _, _ => by
    cases x
    exact ⟨[], fun u m => absurd m (by simp), fun a m => absurd m (by simp)⟩
  | d :: ds, _, x, p, z => by
    obtain ⟨v, vs, rfl, x1, x2⟩ := well_cons x
    have q : plW d = true ∧ plWs ds = true := Bool.and_eq_true_iff.mp p
    obtain ⟨A, a1, a2⟩ := area_one d v x1 q.1 (z d (List.mem_cons_self ..))
    obtain ⟨B, b1, b2⟩ := area_all ds vs x2 q.2 fun e he => z e (List.mem_cons_of_mem _ he)
    have kA : ∀ b ∈ A, b ∈ A ++ B := fun b hb => List.mem_append.mpr (.inl hb)
    have kB : ∀ b ∈ B, b ∈ A ++ B := fun b hb => List.mem_append.mpr (.inr hb)
    refine ⟨A ++ B, fun u hu => ?_, fun b hb => ?_⟩
    · rcases List.mem_cons.mp hu with e | m
      · rw [e]
        exact a1.mono kA
      · exact (b1 u m).mono kB
    · rcases List.mem_append.mp hb with m | m
      · exact (a2 b m).mono kA
      · exact (b2 b m).mono kB
end
end
/-- what is tracked of an argument's object -/
def hoOf (o : Obj) : Option HO := match o.data with
  | .seq vs _ => if (o.cls == Value.type "list") = true then some (.frz o (.lst (vs.toList.map toV))) else some (.frz o (.tup (vs.toList.map toV)))
  | _ => none
def argH (K : PySem.W.Frag) (h : Heap) (A : List Addr) : Hp := fun b => if b ∈ A then (if (K.lookup b).isNone = true then (h.get? b).bind hoOf else none) else none
/-- nothing is tracked but what is known to the object -/
def OnlyF (H : Hp) : Prop := ∀ b, H b = none ∨ ∃ o u, H b = some (.frz o u)
theorem hoOf_lst (vs : List Value) : hoOf { cls := .type "list", data := .seq vs.toArray } = some (.frz { cls := .type "list", data := .seq vs.toArray } (.lst (vs.map toV))) := by
  show (if (Value.type "list" == Value.type "list") = true then some (HO.frz { cls := .type "list", data := .seq vs.toArray } (.lst (vs.toArray.toList.map toV))) else some (HO.frz { cls := .type "list", data := .seq vs.toArray } (.tup (vs.toArray.toList.map toV)))) = _
  rw [if_pos (beq_self_eq_true _)]
theorem hoOf_tup (vs : List Value) : hoOf { cls := .type "tuple", data := .seq vs.toArray } = some (.frz { cls := .type "tuple", data := .seq vs.toArray } (.tup (vs.map toV))) := by
  show (if (Value.type "tuple" == Value.type "list") = true then some (HO.frz { cls := .type "tuple", data := .seq vs.toArray } (.lst (vs.toArray.toList.map toV))) else some (HO.frz { cls := .type "tuple", data := .seq vs.toArray } (.tup (vs.toArray.toList.map toV)))) = _
  rw [if_neg (by decide)]
section
variable {P : Program} {w : World} {K : PySem.W.Frag} {h : Heap} {A : List Addr}
theorem argH_at {b : Addr} {o : Obj} (hb : b ∈ A) (hk : K.lookup b = none) (e : h.get? b = some o) : argH K h A b = hoOf o := by
  unfold argH
  rw [if_pos hb, hk, if_pos (show (none : Option Obj).isNone = true from rfl), e] <;> rfl
theorem of_argH {b : Addr} {u : HO} (q : argH K h A b = some u) : b ∈ A ∧ K.lookup b = none := by
  unfold argH at q
  by_cases hb : b ∈ A
  · rw [if_pos hb] at q
    cases hk : K.lookup b with
    | none => exact ⟨hb, rfl⟩
    | some o =>
      rw [hk, if_neg (by simp)] at q
      cases q
  · rw [if_neg hb] at q
    cases q
/-- what stands tracked -/
theorem argH_is (ar : ∀ a ∈ A, ArgOb h A a) {b : Addr} {u : HO} (q : argH K h A b = some u) : K.lookup b = none ∧ ∃ vs : List Value, vs.length ≤ sizeLine ∧ (∀ u ∈ vs, OkU A u) ∧
    ((h.get? b = some { cls := .type "list", data := .seq vs.toArray } ∧ u = .frz { cls := .type "list", data := .seq vs.toArray } (.lst (vs.map toV))) ∨
     (h.get? b = some { cls := .type "tuple", data := .seq vs.toArray } ∧ u = .frz { cls := .type "tuple", data := .seq vs.toArray } (.tup (vs.map toV)))) := by
  obtain ⟨hb, hk⟩ := of_argH q
  obtain ⟨vs, h1, h2, h3⟩ := ar b hb
  refine ⟨hk, vs, h1, h2, ?_⟩
  rcases h3 with e | e
  · rw [argH_at hb hk e, hoOf_lst] at q
    exact .inl ⟨e, (Option.some.inj q).symm⟩
  · rw [argH_at hb hk e, hoOf_tup] at q
    exact .inr ⟨e, (Option.some.inj q).symm⟩
theorem argH_only (ar : ∀ a ∈ A, ArgOb h A a) : OnlyF (argH K h A) := fun b => by
  cases q : argH K h A b with
  | none => exact .inl rfl
  | some u =>
    obtain ⟨_, vs, _, _, ⟨_, e⟩ | ⟨_, e⟩⟩ := argH_is ar q
    · exact .inr ⟨_, _, by rw [e]⟩
    · exact .inr ⟨_, _, by rw [e]⟩
theorem argH_ok (ar : ∀ a ∈ A, ArgOb h A a) : HOk P w (argH K h A) h := fun b u q => by
  obtain ⟨_, vs, h1, h2, ⟨e, rfl⟩ | ⟨e, rfl⟩⟩ := argH_is ar q
  · exact ⟨e, by rw [List.length_map]; exact h1, vs, _, vals_toV h2, e⟩
  · exact ⟨e, by rw [List.length_map]; exact h1, vs, vals_toV h2, _, e, rfl, _, rfl⟩
theorem seq_inj {c c' : Value} {vs us : List Value} (e : (some { cls := c, data := .seq vs.toArray } : Option Obj) = some { cls := c', data := .seq us.toArray }) : c = c' ∧ vs = us := by
  have e1 := Option.some.inj e
  have e2 : c = c' := congrArg Obj.cls e1
  have e3 : Data.seq vs.toArray = Data.seq us.toArray := congrArg Obj.data e1
  injection e3 with e4
  refine ⟨e2, ?_⟩
  have e5 := congrArg Array.toList e4
  simpa using e5
/-- a list argument -/
theorem argL (KX : K.In h) (ar : ∀ a ∈ A, ArgOb h A a) {a : Addr} {vs : List Value} (ha : a ∈ A) (e : h.get? a = some { cls := .type "list", data := .seq vs.toArray }) : (∀ u ∈ vs, OkU A u) ∧ SqL K (argH K h A) a (vs.map toV) := by
  obtain ⟨us, h1, h2, h3⟩ := ar a ha
  have hu : us = vs := by
    rcases h3 with q | q
    · rw [e] at q
      exact (seq_inj q).2.symm
    · rw [e] at q
      exact absurd (Value.type.inj (seq_inj q).1) (by decide)
  subst hu
  refine ⟨h2, ?_⟩
  cases hk : K.lookup a with
  | none => exact .inl (.inr ⟨_, by rw [argH_at ha hk e, hoOf_lst]⟩)
  | some o =>
    have e2 := KX a o hk
    rw [e] at e2
    obtain rfl := Option.some.inj e2
    exact .inr ⟨_, us.toArray, _, hk, rfl, rfl, rfl, by rw [List.size_toArray]; exact h1, by simpa using vals_toV h2⟩
theorem argT (KX : K.In h) (ar : ∀ a ∈ A, ArgOb h A a) {a : Addr} {vs : List Value} (ha : a ∈ A) (e : h.get? a = some { cls := .type "tuple", data := .seq vs.toArray }) : (∀ u ∈ vs, OkU A u) ∧ SqT K (argH K h A) a (vs.map toV) := by
  obtain ⟨us, h1, h2, h3⟩ := ar a ha
  have hu : us = vs := by
    rcases h3 with q | q
    · rw [e] at q
      exact absurd (Value.type.inj (seq_inj q).1) (by decide)
    · rw [e] at q
      exact (seq_inj q).2.symm
  subst hu
  refine ⟨h2, ?_⟩
  cases hk : K.lookup a with
  | none => exact .inl (.inr ⟨_, by rw [argH_at ha hk e, hoOf_tup]⟩)
  | some o =>
    have e2 := KX a o hk
    rw [e] at e2
    obtain rfl := Option.some.inj e2
    exact .inr ⟨_, us.toArray, _, hk, rfl, rfl, by rw [List.size_toArray]; exact h1, by simpa using vals_toV h2⟩
mutual
theorem dw_one {Pm : Params} (KX : K.In h) (ar : ∀ a ∈ A, ArgOb h A a) : ∀ (d : WData) (v : Value), Well Pm h v d → plW d = true → OkU A v → Dw K (argH K h A) (toV v) d
  | .none, _, x, _, _ => by
    cases x
    exact .non
  | .bool b, _, x, _, _ => by
    cases x
    exact .bl b
  | .int i, _, x, _, _ => by
    cases x
    exact .int i
  | .str s, _, x, _, _ => by
    cases x
    exact .str s
  | .bytes b, _, x, _, _ => by
    cases x
    have z := Dw.byt (K := K) (H := argH K h A) b.toArray
    exact z
  | .list ds, _, x, p, hu => by
    obtain ⟨a, vs, rfl, ho, hall⟩ := well_list x
    obtain ⟨h2, hs⟩ := argL KX ar hu ho
    exact .lst hs (dw_all KX ar ds _ hall p h2)
  | .tuple ds, _, x, p, hu => by
    obtain ⟨a, vs, rfl, ho, hall⟩ := well_tuple x
    obtain ⟨h2, hs⟩ := argT KX ar hu ho
    exact .tup hs (dw_all KX ar ds _ hall p h2)
  | .float _, _, _, p, _ => Bool.noConfusion (show false = true from p)
  | .dict _, _, _, p, _ => Bool.noConfusion (show false = true from p)
  | .bytearray _, _, _, p, _ => Bool.noConfusion (show false = true from p)
  | .set _, _, _, p, _ => Bool.noConfusion (show false = true from p)
  | .frozenset _, _, _, p, _ => Bool.noConfusion (show false = true from p)
  | .obj _ _, _, _, p, _ => Bool.noConfusion (show false = true from p)
theorem dw_all {Pm : Params} (KX : K.In h) (ar : ∀ a ∈ A, ArgOb h A a) : ∀ (ds : List WData) (vs : List Value), WellAll Pm h vs ds → plWs ds = true → (∀ u ∈ vs, OkU A u) → DwAll K (argH K h A) (vs.map toV) ds
  | [], _, x, _, _ => by
    cases x
    exact .nil
  | d :: ds, _, x, p, hu => by
    obtain ⟨v, vs, rfl, x1, x2⟩ := well_cons x
    have q : plW d = true ∧ plWs ds = true := Bool.and_eq_true_iff.mp p
    exact .cons (dw_one KX ar d v x1 q.1 (hu _ (List.mem_cons_self ..))) (dw_all KX ar ds vs x2 q.2 fun u m => hu u (List.mem_cons_of_mem _ m))
end
end
theorem spec_call {P : Program} {w : World} {K : PySem.W.Frag} {mg mb : Str → Option Value} {CX : CXT} {k : Nat} {fa : Addr} {fd : FuncData} {ps : List Str} {sp : Sp} {s₁ : Shared} {vals : List Value} {ds : List WData} {R : PySem.W.WRecords} {cl : Str → Option Addr} {d0 : WData}
    (KX : K.In s₁.heap) (hns : s₁.heap.Ns mainGlobals mg) (hb : s₁.heap.Ns builtinsNs mb) (hbb : ∀ x : Str, x ≠ "__name__" → mb x = bootBuiltins x) (hlim : s₁.heap.NoLimit) (hg : s₁.gens = #[])
    (hwl : WellAll w.params s₁.heap vals ds) (hpl : plWs ds = true) (hwt : ∀ d ∈ ds, d.weight ≤ 1048576) (hr : Room k callerA)
    (F : ∀ base : Heap, K.In base → base.Ns mainGlobals mg → FnOk P w K mg base CX k fa fd ps sp) (hbind : ∀ (s : Shared) (us : List Value), us.length = ps.length → BindsTo s fd ⟨us, []⟩ (ps.zip us)) (hlen : ds.length = ps.length)
    (hsp : ∀ (H : Hp) (xs : List V), OnlyF H → DwAll K H xs ds → sp xs H (fun v H' => Dw K H' v d0) fun _ _ _ => False)
    (hCX : ∀ H e s', CX [] H s₁ (fun _ _ _ => False) e s' → False) :
    codeAny (model P w) callerA (.call (.ref fa) ⟨vals, []⟩) (fun r s' => ∃ u as, r = .ok (.ret u) ∧ ReadsW R cl s'.heap u d0 as ∧ OldK s₁.heap s'.heap ∧ s'.os = s₁.os ∧ AllBare s'.gens) s₁ := by
  obtain ⟨A, ho, ar⟩ := area_all ds vals hwl hpl hwt
  have hO : OnlyF (argH K s₁.heap A) := argH_only ar
  have hok : HOk P w (argH K s₁.heap A) s₁.heap := argH_ok ar
  have hS := dw_all KX ar ds vals hwl hpl ho
  have hV := vals_toV ho
  have hK : ∀ b u, argH K s₁.heap A b = some u → K.lookup b = none := fun b u q => (argH_is ar q).1
  have noA : ∀ {b : Addr} {o : Obj} {es : Array DictEntry} {ep : Nat}, s₁.heap.get? b = some o → o.data = .dict es ep → argH K s₁.heap A b = none := fun {b o es ep} e d => by
    cases q : argH K s₁.heap A b with
    | none => rfl
    | some u =>
      obtain ⟨_, vs, _, _, ⟨e2, _⟩ | ⟨e2, _⟩⟩ := argH_is ar q
      · rw [e2] at e
        cases e
        have d' : Data.seq vs.toArray _ = Data.dict es ep := d
        cases d'
      · rw [e2] at e
        cases e
        have d' : Data.seq vs.toArray _ = Data.dict es ep := d
        cases d'
  generalize argH K s₁.heap A = H at hO hok hS hK noA
  have base_of : ∀ {b : Addr} {o : Obj}, s₁.heap.get? b = some o → H b = none → (hidT s₁.heap H).get? b = some o := fun e n => hidT_get e n
  have nsK : ∀ {b : Addr} {m : Str → Option Value}, s₁.heap.Ns b m → (hidT s₁.heap H).Ns b m := fun {b m} ⟨o, es, ep, e, d, r⟩ => ⟨o, es, ep, base_of e (noA e d), d, r⟩
  have nK : ∀ b o, K.lookup b = some o → H b = none := fun b o e => by
    cases q : H b with
    | none => rfl
    | some u =>
      rw [hK b u q] at e
      cases e
  have hKb : K.In (hidT s₁.heap H) := fun b o e => base_of (KX b o e) (nK b o e)
  have hM : Mod K mg (hidT s₁.heap H) := ⟨hKb, nsK hns, ⟨mb, nsK hb, hbb⟩, let ⟨mc, h1, h2⟩ := hlim; ⟨mc, nsK h1, h2⟩⟩
  have e0 : Env0 P w K mg (hidT s₁.heap H) callerA [] s₁ H := ⟨rfl, hM, fun b o e => of_hidT e, Nat.le_of_eq (hidT_size _ _), trivial, fun b hb => absurd (show b ∈ ([] : List Addr) from hb) (by simp), hok, .of_eq hg⟩
  have hl : vals.length = ps.length := by rw [wellAll_len hwl]; exact hlen
  refine codeAny_mono ((F _ hKb (nsK hns)).run callerA [] s₁ H ⟨vals, []⟩ vals (vals.map toV) _ _ hr e0 (hbind s₁ vals hl) hV (hsp H _ hO hS)) fun r s' x => ?_
  cases r with
  | error e => exact (hCX H e s' x).elim
  | ok fl =>
    cases fl with
    | next => exact False.elim x
    | brk => exact False.elim x
    | cont => exact False.elim x
    | ret u =>
      obtain ⟨v, H', os, bare, un, hok', r', q⟩ := x
      have kept : ∀ b o, s₁.heap.get? b = some o → s'.heap.get? b = some o := fun b o e => by
        cases q2 : H b with
        | none => exact un.keep b o e q2 (by intro z; exact absurd (show b ∈ ([] : List Addr) from z) (by simp)) (by simp)
        | some u2 =>
          rcases hO b with z | ⟨ob, u3, z⟩
          · rw [q2] at z
            cases z
          · have z2 := un.frzs b ob _ z
            obtain ⟨e1, _⟩ := hok b _ z
            obtain ⟨e2, _⟩ := hok' b _ z2
            rw [e] at e1
            cases e1
            exact e2
      have KX' : K.In s'.heap := fun b o e => kept b o (KX b o e)
      obtain ⟨as, hrd⟩ := Dw.reads (R := R) (cl := cl) hok' KX' d0 v u q r'
      exact ⟨u, as, rfl, hrd, OldK.of_keep kept, os, bare⟩
theorem layable_weight {ds : List WData} (h : WData.layableAll ds = true) : ∀ d ∈ ds, d.weight ≤ 1048576 := fun d hd =>
  (PySem.W.layableW_iff.mp (List.all_eq_true.mp h d hd)).2.2
theorem encAll_len : ∀ (cs : List Codec) (a : Codec.denoteAll cs), (Codec.encAll cs a).length = cs.length
  | [], _ => rfl
  | c :: cs, a => by
    show (Codec.encAll cs a.2).length + 1 = cs.length + 1
    rw [encAll_len cs a.2]
/-- the goal that k_headS leaves (case hc), from the promise of the row's def: whatever the arguments that the codecs let and the row asks for, the def gives what stands for enc (f ..) -/
theorem walk_spec {r : OpenSpec} {k : Nat} {q : Program} {loose : List Str} {XP : (Str → Option Value) → Heap → Prop} {YP : World → Heap → Prop} {d : DefRec} {K : Params → PySem.W.Frag} {CX : World → CXT} {ps : List Str} {sp : World → Sp}
    (hwell : r.wellSaid = true) (hdf : d.params.defaults = []) (hlen : r.args.length = ps.length) (hr : Room k callerA)
    (hY : ∀ (w : World) (h : Heap), YP w h → (K w.params).In h)
    (F : ∀ (w : World) (mg : Str → Option Value) (fa : Addr) (h : Heap), YP w h → (K w.params).In h → h.Ns mainGlobals mg → mg d.name = some (.ref fa) →
      ∃ fd : FuncData, (∀ (s : Shared) (us : List Value), us.length = ps.length → BindsTo s fd ⟨us, []⟩ (ps.zip us)) ∧
        ∀ base : Heap, (K w.params).In base → base.Ns mainGlobals mg → FnOk r.prog w (K w.params) mg base (CX w) k fa fd ps (sp w))
    (hsp : ∀ (w : World) (H : Hp) (xs : List V) (a : Codec.denoteAll r.args), OnlyF H → Codec.withinAll r.args a = true → Codec.app r.args r.asked a = true → DwAll (K w.params) H xs (Codec.encAll r.args a) →
      sp w xs H (fun v H' => Dw (K w.params) H' v (r.ret.enc (Codec.app r.args r.f a))) fun _ _ _ => False)
    (hCX : ∀ (w : World) (H : Hp) (s : Shared) (e : Value) (s' : Shared), CX w [] H s (fun _ _ _ => False) e s' → False) :
    PySem.W.WalkOS q loose XP YP r d [] (fun f vs => PySem.call f vs) := by
  intro w s_0 s₁ mg mb G Y fa o pm cd doc dV kV ho hd hcd hD hmg hg args vals as hpre hlay hrd hwl hlo
  obtain ⟨a, e1, e2⟩ := PySem.W.os_pre_some hpre
  obtain ⟨e3, hwi⟩ := Codec.encAll_of_decAll r.args args a e1
  subst e3
  have KX := hY w _ Y
  obtain ⟨fd, hb, hF⟩ := F w mg fa _ Y KX G.T.g hmg
  refine PySem.W.enter_call (codeAny_mono (spec_call (R := []) (cl := classAt s_0.heap) (d0 := r.ret.enc (Codec.app r.args r.f a)) KX G.T.g G.T.b G.T.builtins G.T.nolimit hg hwl (pl_encAll _ _) (layable_weight hlay) hr hF hb (by rw [encAll_len]; exact hlen)
    (fun H xs hO hS => hsp w H xs a hO hwi e2 hS) fun H e s' => hCX w H s₁ e s') fun r' s' hq => ?_)
  obtain ⟨u, as', rfl, h1, h2, h3, h4⟩ := hq
  exact ⟨.inl ⟨u, _, as', rfl, fun _ => rfl, h1, (OpenSpec.post_iff hwell hwi _ _).mpr rfl, fun z => Bool.noConfusion (show false = true from z)⟩, h2, h3, h4⟩
/-- the same where the promise hangs on the written part alone -/
theorem walk_specK {r : OpenSpec} {k : Nat} {q : Program} {loose : List Str} {XP : (Str → Option Value) → Heap → Prop} {YP : World → Heap → Prop} {d : DefRec} {K : Params → PySem.W.Frag} {CX : CXT} {ps : List Str} {sp : PySem.W.Frag → Sp}
    (hwell : r.wellSaid = true) (hdf : d.params.defaults = []) (hlen : r.args.length = ps.length) (hr : Room k callerA)
    (hY : ∀ (w : World) (h : Heap), YP w h → (K w.params).In h)
    (F : ∀ (w : World) (mg : Str → Option Value) (fa : Addr) (h : Heap), YP w h → (K w.params).In h → h.Ns mainGlobals mg → mg d.name = some (.ref fa) →
      ∃ fd : FuncData, (∀ (s : Shared) (us : List Value), us.length = ps.length → BindsTo s fd ⟨us, []⟩ (ps.zip us)) ∧
        ∀ base : Heap, (K w.params).In base → base.Ns mainGlobals mg → FnOk r.prog w (K w.params) mg base CX k fa fd ps (sp (K w.params)))
    (hsp : ∀ (K : PySem.W.Frag) (H : Hp) (xs : List V) (a : Codec.denoteAll r.args), OnlyF H → Codec.withinAll r.args a = true → Codec.app r.args r.asked a = true → DwAll K H xs (Codec.encAll r.args a) →
      sp K xs H (fun v H' => Dw K H' v (r.ret.enc (Codec.app r.args r.f a))) fun _ _ _ => False)
    (hCX : ∀ (H : Hp) (s : Shared) (e : Value) (s' : Shared), CX [] H s (fun _ _ _ => False) e s' → False) :
    PySem.W.WalkOS q loose XP YP r d [] (fun f vs => PySem.call f vs) :=
  walk_spec (K := K) (CX := fun _ => CX) (sp := fun w => sp (K w.params)) hwell hdf hlen hr hY F (fun w H xs a h1 h2 h3 h4 => hsp (K w.params) H xs a h1 h2 h3 h4) fun _ H s e s' => hCX H s e s'
end L2
end
namespace L2
open PySem PySem.Spec PyProof.Rows
/-- the j-th statement of a class's body -/
def inClass (s : Stmt) (j : Nat) : Stmt := match s with
  | .ClassDef _ _ _ body _ _ _ _ _ _ _ => body.getD j (.Pass ⟨0, 0, 0, 0⟩)
  | _ => .Pass ⟨0, 0, 0, 0⟩
def defArgs (s : Stmt) : Arguments := match s with
  | .FunctionDef _ a _ _ _ _ _ _ _ _ => a
  | _ => { posonlyargs := [], args := [], vararg := none, kwonlyargs := [], kw_defaults := [], kwarg := none, defaults := [] }
def defBody (s : Stmt) : List Stmt := match s with
  | .FunctionDef _ _ b _ _ _ _ _ _ _ => b
  | _ => []
def defScope (s : Stmt) : Scope := match s with
  | .FunctionDef _ _ _ _ _ _ sc _ _ _ => sc
  | _ => { kind := .function, names := [], isGenerator := false, isCoroutine := false }
abbrev CX0 : CXT := fun _ _ _ _ _ _ => False
abbrev E0 : XK := fun _ _ _ => False
theorem pass0 {X : Cx} : Passes CX0 X E0 := fun _ _ _ _ _ _ _ h => h.elim
structure Fun (K : PySem.W.Frag) (x qual : Str) (st : Stmt) (f : Addr) (fd : FuncData) : Prop where
  ex : ∃ (oc : Value) (od : Option Addr) (kV doc pm : Value) (an : Option Addr) (cdv ct : Value) (osl : Array (Option Value)),
    fd = PySem.W.fnOf x qual (defArgs st) (defBody st) (defScope st) .none kV doc pm an cdv ct ∧ K.lookup f = some ⟨oc, od, .func fd, osl⟩ ∧ PySem.W.codeIn K cdv qual = true
  kp : PySem.W.keepIn K (.ref f) = true
section
variable {P : Program} {w : World} {K : PySem.W.Frag} {mg : Str → Option Value} {base : Heap}
/-- THE RULE for a def: its body as a term of rules, and the reading of that term -/
theorem Fun.ok {x qual : Str} {st : Stmt} {f : Addr} {fd : FuncData} {N ps : List Str} {k : Nat} {sp : Sp} (F : Fun K x qual st f fd) (S : FnScope N ps (defScope st)) (len : ∀ vs H Q E, sp vs H Q E → vs.length = ps.length)
    (hbody : ∀ (cdv : Value) (A : Around) (outer : List Env) (s : Shared) (H : Hp) (vs : List V) (Q : VK) (E : XK), Room k (A.deeper (envOfC qual (defScope st) s.heap.objs.size f cdv)) → sp vs H Q E →
      ∃ t, PSs (cxOf CX0 P w K mg base N qual (defScope st) f cdv A outer s H E).nox (defBody st) t ∧ t { nx := fun _ H' => Q .non H', rt := Q } (start N vs) H) : FnOk P w K mg base CX0 (k + 1) f fd ps sp := by
  obtain ⟨oc, od, kV, doc, pm, an, cdv, ct, osl, rfl, lk, hcd⟩ := F.ex
  refine fn_of lk hcd S len fun A outer s H vs Q E hr hsp => ?_
  obtain ⟨t, h, q⟩ := hbody cdv A outer s H vs Q E hr hsp
  exact ⟨t, h.nox, q⟩
/-- how its arguments bind (no defaults): h is «fun _ _ _ _ _ _ us hl => match us, hl with | [_, _], _ => rfl», one _ a parameter -/
theorem Fun.binds {x qual : Str} {st : Stmt} {f : Addr} {fd : FuncData} {ps : List Str} (F : Fun K x qual st f fd)
    (h : ∀ (kV doc pm : Value) (an : Option Addr) (cdv ct : Value) (us : List Value), us.length = ps.length → bindArgs (PySem.W.fnOf x qual (defArgs st) (defBody st) (defScope st) .none kV doc pm an cdv ct) ⟨us, []⟩ = pure (ps.zip us)) : Binds K fd ps [] := by
  obtain ⟨oc, od, kV, doc, pm, an, cdv, ct, osl, rfl, lk, hcd⟩ := F.ex
  exact .all (h kV doc pm an cdv ct)
theorem fun_mk {x qual : Str} {st : Stmt} {f : Addr} {oc : Value} {od an : Option Addr} {osl : Array (Option Value)} {kV doc pm cdv ct : Value} (l : K.lookup f = some ⟨oc, od, .func (PySem.W.fnOf x qual (defArgs st) (defBody st) (defScope st) .none kV doc pm an cdv ct), osl⟩)
    (c : PySem.W.codeIn K cdv qual = true) (k : PySem.W.keepIn K (.ref f) = true) : Fun K x qual st f (PySem.W.fnOf x qual (defArgs st) (defBody st) (defScope st) .none kV doc pm an cdv ct) := ⟨⟨oc, od, kV, doc, pm, an, cdv, ct, osl, rfl, l, c⟩, k⟩
end
theorem hu_of {A : Around} {k : Nat} (hr : Room k A) : A.units + 1 < cLine := Nat.lt_of_le_of_lt (Nat.add_le_add_left (by decide : 1 ≤ 64) _) hr.units
theorem small1000 {n : Nat} (h : n ≤ 1000) : n < sizeLine := Nat.lt_of_le_of_lt h (by decide)
section
variable {X : Cx}
theorem pv (i : Nat) {x : Str} {pos : Pos} (hN : X.N[i]? = some x := by rfl) (hv : Vis X.env.scope x := by first | exact Or.inl rfl | exact Or.inr (Or.inl rfl) | exact Or.inr (Or.inr rfl)) (hd : (x == ("__debug__" : Str)) = false := by decide)
    (hcd : (x == ("__classdict__" : Str)) = false := by decide) : PE X (.Name x pos) (tVar i) := pe_var hN hv hd hcd
end
theorem iteF {A B : Prop} (h : B) : if false = true then A else B := by
  rw [if_neg Bool.false_ne_true]
  exact h
theorem iteT {A B : Prop} (h : A) : if true = true then A else B := by
  rw [if_pos rfl]
  exact h
theorem ite2 {c A B : Prop} [Decidable c] (h1 : c → A) (h2 : ¬ c → B) : if c then A else B := by
  by_cases h : c
  · rw [if_pos h]
    exact h1 h
  · rw [if_neg h]
    exact h2 h
/-- all that was tracked is as it was -/
def Same (H H' : Hp) : Prop := ∀ b o, H b = some o → H' b = some o
theorem Same.refl (H : Hp) : Same H H := fun _ _ h => h
theorem Same.trans {H H1 H2 : Hp} (a : Same H H1) (b : Same H1 H2) : Same H H2 := fun c o h => b c o (a c o h)
theorem Same.free {H H' : Hp} (e : Same H H') {l : Addr} (h : H' l = Option.none) : H l = Option.none := by
  cases q : H l with
  | none => rfl
  | some o =>
    rw [e l o q] at h
    cases h
section
variable {κ : Type} [DecidableEq κ]
end
theorem at_of {xs : List V} {z : Int} {j : Nat} {v : V} (e : z = (j : Int)) (h : xs[j]? = some v) : atI xs z = some v := by
  rw [e]
  exact atI_nat h
/-- a new instance and its __init__ leave all that was tracked as it was -/
theorem Same.made {H H1 : Hp} {x dx C : Addr} (nx : H x = Option.none) (nd : H dx = Option.none) (k : ∀ b o, (upd (upd H dx (.own x)) x (.ins C dx [])) b = some o → b ≠ x → H1 b = some o) : Same H H1 := fun b o e =>
  k b o (by rw [upd_ne (ne_of_none e nx), upd_ne (ne_of_none e nd)]; exact e) (ne_of_none e nx)
end L2
end
section
set_option Elab.async false
set_option linter.all false
namespace GM
open Vbemar
def key (r : Row) : Nat × Nat := (r.to, r.q)
structure Srt (l : Sheet) : Prop where
  pw : l.Pairwise fun a b => before a b = true
  nz : ∀ r ∈ l, r.amount ≠ 0
  bd : ∀ r ∈ l, r.to < 4 ∧ r.q < 3
def KN (us : List Row) : Prop := (us.map key).Nodup
theorem before_iff {a b : Row} : before a b = true ↔ a.to < b.to ∨ (a.to = b.to ∧ a.q < b.q) := by
  unfold before
  simp only [Bool.or_eq_true, decide_eq_true_eq, Bool.and_eq_true, beq_iff_eq]
theorem before_key {a b : Row} (h : before a b = true) : key a ≠ key b := by
  intro e
  have e1 : a.to = b.to := congrArg Prod.fst e
  have e2 : a.q = b.q := congrArg Prod.snd e
  rcases before_iff.mp h with h | ⟨_, h⟩ <;> omega
theorem before_total {a b : Row} (h : key a ≠ key b) : before a b = true ∨ before b a = true := by
  rw [before_iff, before_iff]
  rcases Nat.lt_trichotomy a.to b.to with h1 | h1 | h1
  · exact .inl (.inl h1)
  · rcases Nat.lt_trichotomy a.q b.q with h2 | h2 | h2
    · exact .inl (.inr ⟨h1, h2⟩)
    · exact absurd (Prod.ext h1 h2 : key a = key b) h
    · exact .inr (.inr ⟨h1.symm, h2⟩)
  · exact .inr (.inl h1)
theorem before_trans {a b c : Row} (h1 : before a b = true) (h2 : before b c = true) : before a c = true := by
  rw [before_iff] at h1 h2 ⊢
  omega
theorem Srt.kn {l : Sheet} (h : Srt l) : KN l := by
  unfold KN List.Nodup
  rw [List.pairwise_map]
  exact h.pw.imp fun h => before_key h
theorem Srt.nil : Srt [] := ⟨List.Pairwise.nil, (fun _ h => nomatch h), (fun _ h => nomatch h)⟩
theorem KN.perm {us l : List Row} (p : us.Perm l) (h : KN l) : KN us := (p.map key).nodup_iff.mpr h
theorem KN.uniq : ∀ {us : List Row} (h : KN us) {a b : Row}, a ∈ us → b ∈ us → key a = key b → a = b
  | [], _, _, _, ha, _, _ => nomatch ha
  | x :: us, h, a, b, ha, hb, e => by
    unfold KN at h
    rw [List.map_cons, List.nodup_cons] at h
    rcases List.mem_cons.mp ha with rfl | ha' <;> rcases List.mem_cons.mp hb with rfl | hb'
    · rfl
    · exact absurd (List.mem_map.mpr ⟨b, hb', e.symm⟩) h.1
    · exact absurd (List.mem_map.mpr ⟨a, ha', e⟩) h.1
    · exact KN.uniq (us := us) h.2 ha' hb' e
theorem amount_mem {us : List Row} (h : KN us) {r : Row} (hr : r ∈ us) : amount us r.to r.q = r.amount := by
  unfold amount
  cases e : us.find? fun x => x.to == r.to && x.q == r.q with
  | none =>
    have := List.find?_eq_none.mp e r hr
    simp at this
  | some x =>
    have h1 := List.find?_some e
    have h2 := List.mem_of_find?_eq_some e
    simp only [Bool.and_eq_true, beq_iff_eq] at h1
    have e3 : x = r := h.uniq h2 hr (Prod.ext h1.1 h1.2)
    rw [e3]
theorem amount_none {us : List Row} {t q : Nat} (h : ∀ r ∈ us, ¬ (r.to = t ∧ r.q = q)) : amount us t q = 0 := by
  unfold amount
  cases e : us.find? fun x => x.to == t && x.q == q with
  | none => rfl
  | some x =>
    have h1 := List.find?_some e
    have h2 := List.mem_of_find?_eq_some e
    simp only [Bool.and_eq_true, beq_iff_eq] at h1
    exact absurd h1 (h x h2)
theorem amount_perm {us l : List Row} (p : us.Perm l) (h : KN l) (t q : Nat) : amount us t q = amount l t q := by
  by_cases c : ∃ r ∈ l, r.to = t ∧ r.q = q
  · obtain ⟨r, hr, rfl, rfl⟩ := c
    rw [amount_mem (h.perm p) (p.mem_iff.mpr hr), amount_mem h hr]
  · have c' : ∀ r ∈ l, ¬ (r.to = t ∧ r.q = q) := fun r hr e => c ⟨r, hr, e⟩
    rw [amount_none c', amount_none fun r hr => c' r (p.mem_iff.mp hr)]
def dropU (us : List Row) (k : Nat × Nat) : List Row := us.filter fun x => decide (key x ≠ k)
def putU (us : List Row) (r : Row) : List Row :=
  if us.any (fun x => decide (key x = key r)) then us.map (fun x => if key x = key r then r else x) else us ++ [r]
theorem put_filter (r : Row) (l : Sheet) : (l.filter fun x => !(x.to == r.to && x.q == r.q)) = dropU l (key r) := by
  unfold dropU
  congr 1
  funext x
  by_cases c : key x = key r
  · have e1 : x.to = r.to := congrArg Prod.fst c
    have e2 : x.q = r.q := congrArg Prod.snd c
    simp [c, e1, e2]
  · rw [decide_eq_true c]
    by_cases c1 : x.to = r.to
    · by_cases c2 : x.q = r.q
      · exact absurd (Prod.ext c1 c2) c
      · simp [c2]
    · simp [c1]
theorem insert_perm (r : Row) : ∀ m : Sheet, (insert_ r m).Perm (r :: m)
  | [] => .refl _
  | x :: l => by
    unfold insert_
    split
    · exact ((insert_perm r l).cons x).trans (.swap r x l)
    · exact .refl _
theorem repl_perm (r : Row) : ∀ {us : List Row}, KN us → us.any (fun x => decide (key x = key r)) = true →
    (us.map fun x => if key x = key r then r else x).Perm (r :: dropU us (key r))
  | [], _, h => by simp at h
  | x :: us, hn, h => by
    unfold KN at hn
    rw [List.map_cons, List.nodup_cons] at hn
    by_cases c : key x = key r
    · have e1 : us.map (fun x => if key x = key r then r else x) = us := by
        rw [List.map_congr_left (g := id)]
        · simp
        · intro y hy
          rw [if_neg fun e => hn.1 (List.mem_map.mpr ⟨y, hy, e.trans c.symm⟩)]
          rfl
      have e2 : dropU (x :: us) (key r) = us := by
        unfold dropU
        rw [List.filter_cons, if_neg (by simp [c])]
        rw [List.filter_eq_self]
        intro y hy
        exact decide_eq_true fun e => hn.1 (List.mem_map.mpr ⟨y, hy, e.trans c.symm⟩)
      rw [List.map_cons, if_pos c, e1, e2]
    · have h' : us.any (fun x => decide (key x = key r)) = true := by
        rw [List.any_cons, decide_eq_false c, Bool.false_or] at h
        exact h
      have ih := repl_perm r (us := us) hn.2 h'
      have e2 : dropU (x :: us) (key r) = x :: dropU us (key r) := by
        unfold dropU
        rw [List.filter_cons, if_pos (by simp [c])]
      rw [List.map_cons, if_neg c, e2]
      exact (ih.cons x).trans (.swap r x _)
theorem dropU_none {us : List Row} {k : Nat × Nat} (h : us.any (fun x => decide (key x = k)) = false) : dropU us k = us := by
  unfold dropU
  rw [List.filter_eq_self]
  intro y hy
  have := List.any_eq_false.mp h y hy
  simpa using this
theorem putU_perm0 {us : List Row} (hn : KN us) (r : Row) : (putU us r).Perm (r :: dropU us (key r)) := by
  unfold putU
  by_cases c : us.any (fun x => decide (key x = key r)) = true
  · rw [if_pos c]
    exact repl_perm r hn c
  · rw [if_neg c, dropU_none (by simpa using c)]
    exact List.perm_append_comm
theorem drop_perm {us l : List Row} (p : us.Perm l) (k : Nat × Nat) : (dropU us k).Perm (dropU l k) := p.filter _
theorem putU_perm {us l : List Row} (p : us.Perm l) (h : Srt l) {r : Row} (hr : r.amount ≠ 0) : (putU us r).Perm (put r l) := by
  unfold put
  rw [put_filter]
  show (putU us r).Perm (if r.amount = 0 then dropU l (key r) else insert_ r (dropU l (key r)))
  rw [if_neg hr]
  exact ((putU_perm0 (h.kn.perm p) r).trans ((drop_perm p _).cons r)).trans (insert_perm r _).symm
theorem dropU_perm {us l : List Row} (p : us.Perm l) {r : Row} (hr : r.amount = 0) : (dropU us (key r)).Perm (put r l) := by
  unfold put
  rw [put_filter]
  show (dropU us (key r)).Perm (if r.amount = 0 then dropU l (key r) else insert_ r (dropU l (key r)))
  rw [if_pos hr]
  exact drop_perm p _
theorem Srt.drop {l : Sheet} (h : Srt l) (k : Nat × Nat) : Srt (dropU l k) :=
  ⟨h.pw.sublist List.filter_sublist, fun r hr => h.nz r (List.mem_filter.mp hr).1, fun r hr => h.bd r (List.mem_filter.mp hr).1⟩
theorem insert_mem {r x : Row} {m : Sheet} : x ∈ insert_ r m ↔ x = r ∨ x ∈ m := by
  rw [(insert_perm r m).mem_iff, List.mem_cons]
theorem insert_pw {r : Row} : ∀ {m : Sheet}, m.Pairwise (fun a b => before a b = true) → (∀ x ∈ m, key x ≠ key r) → (insert_ r m).Pairwise fun a b => before a b = true
  | [], _, _ => List.pairwise_singleton _ _
  | x :: m, h, hk => by
    rw [List.pairwise_cons] at h
    unfold insert_
    by_cases c : before x r = true
    · rw [if_pos c, List.pairwise_cons]
      refine ⟨fun y hy => ?_, insert_pw h.2 fun y hy => hk y (List.mem_cons_of_mem _ hy)⟩
      rcases insert_mem.mp hy with rfl | hy
      · exact c
      · exact h.1 y hy
    · rw [if_neg c, List.pairwise_cons]
      have c2 : before r x = true := (before_total (hk x List.mem_cons_self)).resolve_left c
      refine ⟨fun y hy => ?_, List.pairwise_cons.mpr h⟩
      rcases List.mem_cons.mp hy with rfl | hy
      · exact c2
      · exact before_trans c2 (h.1 y hy)
theorem Srt.put {l : Sheet} (h : Srt l) {r : Row} (hb : r.to < 4 ∧ r.q < 3) : Srt (put r l) := by
  unfold Vbemar.put
  rw [put_filter]
  show Srt (if r.amount = 0 then dropU l (key r) else insert_ r (dropU l (key r)))
  have hd := h.drop (key r)
  split
  · exact hd
  · rename_i c
    refine ⟨insert_pw hd.pw fun x hx => by simpa using (List.mem_filter.mp hx).2, fun x hx => ?_, fun x hx => ?_⟩
    · rcases insert_mem.mp hx with rfl | hx
      · exact c
      · exact hd.nz x hx
    · rcases insert_mem.mp hx with rfl | hx
      · exact hb
      · exact hd.bd x hx
theorem put_mem {l : Sheet} {r x : Row} (hx : x ∈ put r l) : x = r ∨ x ∈ l := by
  unfold Vbemar.put at hx
  rw [put_filter] at hx
  have hx' : x ∈ (if r.amount = 0 then dropU l (key r) else insert_ r (dropU l (key r))) := hx
  split at hx'
  · exact .inr (List.mem_filter.mp hx').1
  · rcases insert_mem.mp hx' with rfl | hx'
    · exact .inl rfl
    · exact .inr (List.mem_filter.mp hx').1
/-- what is matched of p with r in q -/
def mt (N : Net) (p r q : Nat) : Int := matched (amount (heldOf N p).sheet r q) (amount (heldOf N r).sheet p q)
/-- the rows of one other party, of the first j quarters -/
def mrow (N : Net) (p r j : Nat) : List Row := (List.range j).filterMap fun q => if mt N p r q = 0 then none else some { to := r, q := q, amount := mt N p r q }
/-- the rows of the first i parties -/
def mall (N : Net) (p i : Nat) : List Row := (List.range i).flatMap fun r => mrow N p r N.quarters
theorem mrow_succ (N : Net) (p r j : Nat) : mrow N p r (j + 1) = mrow N p r j ++ (if mt N p r j = 0 then [] else [{ to := r, q := j, amount := mt N p r j }]) := by
  unfold mrow
  rw [List.range_succ, List.filterMap_append]
  congr 1
  by_cases c : mt N p r j = 0
  · simp [c]
  · simp [c]
theorem mall_succ (N : Net) (p i : Nat) : mall N p (i + 1) = mall N p i ++ mrow N p i N.quarters := by
  unfold mall
  rw [List.range_succ, List.flatMap_append]
  simp
theorem mrow_mem {N : Net} {p r j : Nat} {x : Row} (h : x ∈ mrow N p r j) : x.to = r ∧ x.q < j ∧ x.amount ≠ 0 := by
  unfold mrow at h
  obtain ⟨q, hq, e⟩ := List.mem_filterMap.mp h
  rw [List.mem_range] at hq
  by_cases c : mt N p r q = 0
  · rw [if_pos c] at e
    cases e
  · rw [if_neg c] at e
    cases e
    exact ⟨rfl, hq, c⟩
theorem mall_mem {N : Net} {p i : Nat} {x : Row} (h : x ∈ mall N p i) : x.to < i ∧ x.q < N.quarters ∧ x.amount ≠ 0 := by
  unfold mall at h
  obtain ⟨r, hr, e⟩ := List.mem_flatMap.mp h
  rw [List.mem_range] at hr
  obtain ⟨h1, h2, h3⟩ := mrow_mem e
  exact ⟨by omega, h2, h3⟩
theorem mrow_pw (N : Net) (p r : Nat) : ∀ j, (mrow N p r j).Pairwise fun a b => before a b = true
  | 0 => List.Pairwise.nil
  | j + 1 => by
    rw [mrow_succ]
    refine List.pairwise_append.mpr ⟨mrow_pw N p r j, ?_, fun a ha b hb => ?_⟩
    · split
      · exact List.Pairwise.nil
      · exact List.pairwise_singleton _ _
    · obtain ⟨h1, h2, _⟩ := mrow_mem ha
      split at hb
      · exact nomatch hb
      · have e : b = { to := r, q := j, amount := mt N p r j } := by simpa using hb
        subst e
        exact before_iff.mpr (.inr ⟨h1, h2⟩)
theorem mall_pw (N : Net) (p : Nat) : ∀ i, (mall N p i).Pairwise fun a b => before a b = true
  | 0 => List.Pairwise.nil
  | i + 1 => by
    rw [mall_succ]
    refine List.pairwise_append.mpr ⟨mall_pw N p i, mrow_pw N p i _, fun a ha b hb => ?_⟩
    have h1 := (mall_mem ha).1
    have h2 := (mrow_mem hb).1
    exact before_iff.mpr (.inl (by omega))
/-- a sheet of party p: in order, nothing of itself -/
structure Ok (p : Nat) (l : Sheet) : Prop where
  srt : Srt l
  self : ∀ r ∈ l, r.to ≠ p
theorem Ok.nil (p : Nat) : Ok p [] := ⟨Srt.nil, (fun _ h => nomatch h)⟩
theorem Ok.put {p : Nat} {l : Sheet} (h : Ok p l) {r : Row} (hb : r.to < 4 ∧ r.q < 3) (hs : r.to ≠ p) : Ok p (put r l) :=
  ⟨h.srt.put hb, fun x hx => (put_mem hx).elim (fun e => by rw [e]; exact hs) (h.self x)⟩
theorem Ok.amount {p : Nat} {l : Sheet} (h : Ok p l) (q : Nat) : amount l p q = 0 := amount_none fun r hr e => h.self r hr e.1
theorem mt_self {N : Net} {p : Nat} (h : Ok p (heldOf N p).sheet) (q : Nat) : mt N p p q = 0 := by
  unfold mt
  rw [h.amount q]
  rfl
theorem final_mall {N : Net} {p : Nat} (h : Ok p (heldOf N p).sheet) : finalOf N p = mall N p (count N) := by
  unfold finalOf mall mrow
  congr 1
  funext r
  congr 1
  funext q
  show (if r = p ∨ mt N p r q = 0 then none else some ({ to := r, q := q, amount := mt N p r q } : Row)) = _
  by_cases c : r = p
  · subst c
    rw [if_pos (.inl rfl), if_pos (mt_self h q)]
  · by_cases c2 : mt N p r q = 0
    · rw [if_pos (.inr c2), if_pos c2]
    · rw [if_neg (fun e => e.elim c c2), if_neg c2]
theorem mall_srt {N : Net} {p i : Nat} (hi : i ≤ 4) (hq : N.quarters ≤ 3) : Srt (mall N p i) :=
  ⟨mall_pw N p i, fun r hr => (mall_mem hr).2.2, fun r hr => ⟨by have := (mall_mem hr).1; omega, by have := (mall_mem hr).2.1; omega⟩⟩
def MsgOk (n : Nat) : Msg → Prop
  | .doc p _ l => p < n ∧ Ok p l
  | .ack p _ => p < n
  | .late p _ => p < n
  | .conf p l => p < n ∧ Srt l
  | .seen p => p < n
structure POk (i : Nat) (x : Party) : Prop where
  draft : Ok i x.draft
  sent : Ok i x.sent
  final : ∀ l, x.final = some l → Srt l
structure WF (N : Net) : Prop where
  n2 : 2 ≤ N.parties.length
  n4 : N.parties.length ≤ 4
  hl : N.held.length = N.parties.length
  q1 : 1 ≤ N.quarters
  q3 : N.quarters ≤ 3
  po : ∀ (i : Nat) (x : Party), N.parties[i]? = some x → POk i x
  ho : ∀ (i : Nat) (h : Held), N.held[i]? = some h → Ok i h.sheet
  fl : ∀ m ∈ N.flying, MsgOk N.parties.length m
  f40 : N.flying.length ≤ 40
theorem party_at {N : Net} {i : Nat} (h : i < N.parties.length) : N.parties[i]? = some (party N i) := by
  unfold party
  rw [List.getD_eq_getElem?_getD, List.getElem?_eq_getElem h]
  rfl
theorem held_at {N : Net} {i : Nat} (h : i < N.held.length) : N.held[i]? = some (heldOf N i) := by
  unfold heldOf
  rw [List.getD_eq_getElem?_getD, List.getElem?_eq_getElem h]
  rfl
theorem modify_at {α : Type} {l : List α} {i j : Nat} {f : α → α} {x : α} (h : (l.modify i f)[j]? = some x) : ∃ y, l[j]? = some y ∧ x = (if i = j then f y else y) := by
  rw [List.getElem?_modify] at h
  cases e : l[j]? with
  | none =>
    rw [e] at h
    cases h
  | some y =>
    rw [e] at h
    refine ⟨y, rfl, ?_⟩
    by_cases c : i = j
    · rw [if_pos c]
      simpa [c] using h.symm
    · rw [if_neg c]
      simpa [c] using h.symm
theorem WF.setParty {N : Net} (w : WF N) {i : Nat} {f : Party → Party} (h : ∀ x, N.parties[i]? = some x → POk i (f x)) : WF (setParty N i f) where
  n2 := by show 2 ≤ (N.parties.modify i f).length; rw [List.length_modify]; exact w.n2
  n4 := by show (N.parties.modify i f).length ≤ 4; rw [List.length_modify]; exact w.n4
  hl := by show N.held.length = (N.parties.modify i f).length; rw [List.length_modify]; exact w.hl
  q1 := w.q1
  q3 := w.q3
  po := fun j x hx => by
    obtain ⟨y, hy, e⟩ := modify_at hx
    by_cases c : i = j
    · subst c
      rw [if_pos rfl] at e
      rw [e]
      exact h y hy
    · rw [if_neg c] at e
      rw [e]
      exact w.po j y hy
  ho := w.ho
  fl := fun m hm => by show MsgOk (N.parties.modify i f).length m; rw [List.length_modify]; exact w.fl m hm
  f40 := w.f40
theorem WF.setHeld {N : Net} (w : WF N) {i : Nat} {f : Held → Held} (h : ∀ x, N.held[i]? = some x → Ok i (f x).sheet) : WF (setHeld N i f) where
  n2 := w.n2
  n4 := w.n4
  hl := by show (N.held.modify i f).length = N.parties.length; rw [List.length_modify]; exact w.hl
  q1 := w.q1
  q3 := w.q3
  po := w.po
  ho := fun j x hx => by
    obtain ⟨y, hy, e⟩ := modify_at hx
    by_cases c : i = j
    · subst c
      rw [if_pos rfl] at e
      rw [e]
      exact h y hy
    · rw [if_neg c] at e
      rw [e]
      exact w.ho j y hy
  fl := w.fl
  f40 := w.f40
theorem WF.fly {N : Net} (w : WF N) {l : List Msg} (h : ∀ m ∈ l, MsgOk N.parties.length m) (hl : l.length ≤ 40) : WF { N with flying := l } :=
  ⟨w.n2, w.n4, w.hl, w.q1, w.q3, w.po, w.ho, h, hl⟩
theorem WF.post {N : Net} (w : WF N) {m : Msg} (h : MsgOk N.parties.length m) : WF (post N m) := by
  unfold Vbemar.post
  split
  · exact w
  · rename_i c
    have c' : ¬ 40 ≤ N.flying.length := c
    refine w.fly (fun x hx => ?_) (by rw [List.length_append, List.length_singleton]; omega)
    rcases List.mem_append.mp hx with hx | hx
    · exact w.fl x hx
    · have e : x = m := by simpa using hx
      rw [e]
      exact h
theorem WF.clock {N : Net} (w : WF N) (t : Nat) (c : Bool) : WF { N with now := t, closed := c } := ⟨w.n2, w.n4, w.hl, w.q1, w.q3, w.po, w.ho, w.fl, w.f40⟩
theorem post_parties (N : Net) (m : Msg) : (post N m).parties = N.parties := by unfold post; split <;> rfl
def wgt : Msg → Nat
  | .doc _ _ _ => 2
  | .conf _ _ => 2
  | _ => 1
def wgts (l : List Msg) : Nat := (l.map wgt).sum
theorem wgts_snoc (l : List Msg) (m : Msg) : wgts (l ++ [m]) = wgts l + wgt m := by
  unfold wgts
  rw [List.map_append, List.sum_append]
  simp
theorem wgts_post (N : Net) (m : Msg) : wgts (post N m).flying ≤ wgts N.flying + wgt m := by
  unfold post
  split
  · omega
  · show wgts (N.flying ++ [m]) ≤ _
    rw [wgts_snoc]
    omega
theorem wgts_arrive (N : Net) (m : Msg) : wgts (arrive N m).flying + 1 ≤ wgts N.flying + wgt m := by
  cases m with
  | doc p v l =>
    unfold arrive
    simp only
    split
    · have := wgts_post N (.ack p v)
      show _ + 1 ≤ _ + 2
      have e : wgt (.ack p v) = 1 := rfl
      omega
    · split
      · have := wgts_post N (.late p v)
        show _ + 1 ≤ _ + 2
        have e : wgt (.late p v) = 1 := rfl
        omega
      · have := wgts_post (setHeld N p fun h => { h with version := v, sheet := l }) (.ack p v)
        have e : wgt (.ack p v) = 1 := rfl
        have e2 : wgts (setHeld N p fun h => { h with version := v, sheet := l }).flying = wgts N.flying := rfl
        show _ + 1 ≤ _ + 2
        omega
  | ack p v => exact Nat.le_refl _
  | late p v => exact Nat.le_refl _
  | conf p l =>
    unfold arrive
    simp only
    have := wgts_post (setParty N p fun x => { x with final := some l }) (.seen p)
    have e : wgt (.seen p) = 1 := rfl
    have e2 : wgts (setParty N p fun x => { x with final := some l }).flying = wgts N.flying := rfl
    show _ + 1 ≤ _ + 2
    omega
  | seen p => exact Nat.le_refl _
theorem wgts_le : ∀ l : List Msg, wgts l ≤ 2 * l.length
  | [] => Nat.le_refl _
  | m :: l => by
    have h := wgts_le l
    have e : wgts (m :: l) = wgt m + wgts l := by unfold wgts; rw [List.map_cons, List.sum_cons]
    have h2 : wgt m ≤ 2 := by cases m <;> simp [wgt]
    rw [e, List.length_cons]
    omega
/-- the first message arrives -/
def step1 (N : Net) (m : Msg) (r : List Msg) : Net := arrive { N with flying := r } m
theorem flush_nil {N : Net} (h : N.flying = []) : ∀ k, flush k N = N
  | 0 => rfl
  | k + 1 => by
    unfold flush deliver
    rw [h]
    rfl
theorem flush_cons {N : Net} {m : Msg} {r : List Msg} (h : N.flying = m :: r) (k : Nat) : flush (k + 1) N = flush k (step1 N m r) := by
  show (match deliver N 0 with | none => N | some M => flush k M) = _
  unfold deliver
  rw [h]
  rfl
theorem wgts_step1 {N : Net} {m : Msg} {r : List Msg} (h : N.flying = m :: r) : wgts (step1 N m r).flying < wgts N.flying := by
  have h1 := wgts_arrive { N with flying := r } m
  have e : wgts N.flying = wgt m + wgts r := by rw [h]; unfold wgts; rw [List.map_cons, List.sum_cons]
  have e2 : wgts (step1 N m r).flying = wgts (arrive { N with flying := r } m).flying := rfl
  have e3 : wgts ({ N with flying := r } : Net).flying = wgts r := rfl
  omega
def again1 (M : Net) (p : Nat) : Net := if (party M p).waits = true then post M (.doc p (party M p).version (party M p).sent) else M
def conf1 (M : Net) (p : Nat) : Net := if (heldOf M p).seen = false then post M (.conf p (finalOf M p)) else M
def again (N : Net) (i : Nat) : Net := (List.range i).foldl again1 N
def confs (N : Net) (i : Nat) : Net := (List.range i).foldl conf1 N
theorem again_succ (N : Net) (i : Nat) : again N (i + 1) = again1 (again N i) i := by unfold again; rw [List.range_succ, List.foldl_append]; rfl
theorem confs_succ (N : Net) (i : Nat) : confs N (i + 1) = conf1 (confs N i) i := by unfold confs; rw [List.range_succ, List.foldl_append]; rfl
def ticked (N : Net) : Net := { N with now := N.now + 1, closed := N.closed || decide (N.gate ≤ N.now + 1) }
theorem tick_eq (N : Net) : tick N = (if (again (ticked N) (count (ticked N))).closed = true then confs (again (ticked N) (count (ticked N))) (count (again (ticked N) (count (ticked N)))) else again (ticked N) (count (ticked N))) := rfl
theorem again1_same (M : Net) (p : Nat) : (again1 M p).parties = M.parties ∧ (again1 M p).held = M.held ∧ (again1 M p).quarters = M.quarters ∧ (again1 M p).closed = M.closed ∧ (again1 M p).now = M.now ∧ (again1 M p).gate = M.gate := by
  unfold again1 post
  split
  · split <;> exact ⟨rfl, rfl, rfl, rfl, rfl, rfl⟩
  · exact ⟨rfl, rfl, rfl, rfl, rfl, rfl⟩
theorem conf1_same (M : Net) (p : Nat) : (conf1 M p).parties = M.parties ∧ (conf1 M p).held = M.held ∧ (conf1 M p).quarters = M.quarters ∧ (conf1 M p).closed = M.closed ∧ (conf1 M p).now = M.now ∧ (conf1 M p).gate = M.gate := by
  unfold conf1 post
  split
  · split <;> exact ⟨rfl, rfl, rfl, rfl, rfl, rfl⟩
  · exact ⟨rfl, rfl, rfl, rfl, rfl, rfl⟩
theorem again_same (N : Net) : ∀ i, (again N i).parties = N.parties ∧ (again N i).held = N.held ∧ (again N i).quarters = N.quarters ∧ (again N i).closed = N.closed ∧ (again N i).now = N.now ∧ (again N i).gate = N.gate
  | 0 => ⟨rfl, rfl, rfl, rfl, rfl, rfl⟩
  | i + 1 => by
    obtain ⟨a, b, c, d, e, f⟩ := again1_same (again N i) i
    obtain ⟨a', b', c', d', e', f'⟩ := again_same N i
    rw [again_succ]
    exact ⟨a.trans a', b.trans b', c.trans c', d.trans d', e.trans e', f.trans f'⟩
theorem confs_same (N : Net) : ∀ i, (confs N i).parties = N.parties ∧ (confs N i).held = N.held ∧ (confs N i).quarters = N.quarters ∧ (confs N i).closed = N.closed ∧ (confs N i).now = N.now ∧ (confs N i).gate = N.gate
  | 0 => ⟨rfl, rfl, rfl, rfl, rfl, rfl⟩
  | i + 1 => by
    obtain ⟨a, b, c, d, e, f⟩ := conf1_same (confs N i) i
    obtain ⟨a', b', c', d', e', f'⟩ := confs_same N i
    rw [confs_succ]
    exact ⟨a.trans a', b.trans b', c.trans c', d.trans d', e.trans e', f.trans f'⟩
theorem final_srt {N : Net} (w : WF N) {p : Nat} (hp : p < N.parties.length) : finalOf N p = mall N p N.parties.length ∧ Srt (mall N p N.parties.length) := by
  have ho := w.ho p _ (held_at (by rw [w.hl]; exact hp))
  exact ⟨final_mall ho, mall_srt w.n4 w.q3⟩
theorem shape_cases {p : Int} {nk : Nat × Nat} (h : PyVbemar.shape p = some nk) : (p = 0 ∧ nk = (3, 0)) ∨ (p = 1 ∧ nk = (4, 0)) ∨ (p = 2 ∧ nk = (1, 0)) ∨ (p = 3 ∧ nk = (1, 0)) ∨ (p = 4 ∧ nk = (0, 0)) ∨ (p = 5 ∧ nk = (1, 0)) ∨ (p = 6 ∧ nk = (1, 0)) ∨ (p = 7 ∧ nk = (1, 0)) ∨ (p = 8 ∧ nk = (1, 0)) ∨ (p = 9 ∧ nk = (1, 0)) ∨ (p = 10 ∧ nk = (1, 0)) ∨ (p = 11 ∧ nk = (1, 0)) ∨ (p = 12 ∧ nk = (1, 0)) ∨ (p = 13 ∧ nk = (1, 0)) ∨ (p = 14 ∧ nk = (1, 0)) ∨ (p = 15 ∧ nk = (0, 0)) ∨ (p = 16 ∧ nk = (0, 0)) ∨ (p = 17 ∧ nk = (0, 0)) ∨ (p = 18 ∧ nk = (1, 0)) := by
  unfold PyVbemar.shape at h
  by_cases c0 : p = 0
  · rw [if_pos c0] at h
    exact .inl ⟨c0, (Option.some.inj h).symm⟩
  rw [if_neg c0] at h
  by_cases c1 : p = 1
  · rw [if_pos c1] at h
    exact .inr (.inl ⟨c1, (Option.some.inj h).symm⟩)
  rw [if_neg c1] at h
  by_cases c2 : p = 2
  · rw [if_pos c2] at h
    exact .inr (.inr (.inl ⟨c2, (Option.some.inj h).symm⟩))
  rw [if_neg c2] at h
  by_cases c3 : p = 3
  · rw [if_pos c3] at h
    exact .inr (.inr (.inr (.inl ⟨c3, (Option.some.inj h).symm⟩)))
  rw [if_neg c3] at h
  by_cases c4 : p = 4
  · rw [if_pos c4] at h
    exact .inr (.inr (.inr (.inr (.inl ⟨c4, (Option.some.inj h).symm⟩))))
  rw [if_neg c4] at h
  by_cases c5 : p = 5
  · rw [if_pos c5] at h
    exact .inr (.inr (.inr (.inr (.inr (.inl ⟨c5, (Option.some.inj h).symm⟩)))))
  rw [if_neg c5] at h
  by_cases c6 : p = 6
  · rw [if_pos c6] at h
    exact .inr (.inr (.inr (.inr (.inr (.inr (.inl ⟨c6, (Option.some.inj h).symm⟩))))))
  rw [if_neg c6] at h
  by_cases c7 : p = 7
  · rw [if_pos c7] at h
    exact .inr (.inr (.inr (.inr (.inr (.inr (.inr (.inl ⟨c7, (Option.some.inj h).symm⟩)))))))
  rw [if_neg c7] at h
  by_cases c8 : p = 8
  · rw [if_pos c8] at h
    exact .inr (.inr (.inr (.inr (.inr (.inr (.inr (.inr (.inl ⟨c8, (Option.some.inj h).symm⟩))))))))
  rw [if_neg c8] at h
  by_cases c9 : p = 9
  · rw [if_pos c9] at h
    exact .inr (.inr (.inr (.inr (.inr (.inr (.inr (.inr (.inr (.inl ⟨c9, (Option.some.inj h).symm⟩)))))))))
  rw [if_neg c9] at h
  by_cases c10 : p = 10
  · rw [if_pos c10] at h
    exact .inr (.inr (.inr (.inr (.inr (.inr (.inr (.inr (.inr (.inr (.inl ⟨c10, (Option.some.inj h).symm⟩))))))))))
  rw [if_neg c10] at h
  by_cases c11 : p = 11
  · rw [if_pos c11] at h
    exact .inr (.inr (.inr (.inr (.inr (.inr (.inr (.inr (.inr (.inr (.inr (.inl ⟨c11, (Option.some.inj h).symm⟩)))))))))))
  rw [if_neg c11] at h
  by_cases c12 : p = 12
  · rw [if_pos c12] at h
    exact .inr (.inr (.inr (.inr (.inr (.inr (.inr (.inr (.inr (.inr (.inr (.inr (.inl ⟨c12, (Option.some.inj h).symm⟩))))))))))))
  rw [if_neg c12] at h
  by_cases c13 : p = 13
  · rw [if_pos c13] at h
    exact .inr (.inr (.inr (.inr (.inr (.inr (.inr (.inr (.inr (.inr (.inr (.inr (.inr (.inl ⟨c13, (Option.some.inj h).symm⟩)))))))))))))
  rw [if_neg c13] at h
  by_cases c14 : p = 14
  · rw [if_pos c14] at h
    exact .inr (.inr (.inr (.inr (.inr (.inr (.inr (.inr (.inr (.inr (.inr (.inr (.inr (.inr (.inl ⟨c14, (Option.some.inj h).symm⟩))))))))))))))
  rw [if_neg c14] at h
  by_cases c15 : p = 15
  · rw [if_pos c15] at h
    exact .inr (.inr (.inr (.inr (.inr (.inr (.inr (.inr (.inr (.inr (.inr (.inr (.inr (.inr (.inr (.inl ⟨c15, (Option.some.inj h).symm⟩)))))))))))))))
  rw [if_neg c15] at h
  by_cases c16 : p = 16
  · rw [if_pos c16] at h
    exact .inr (.inr (.inr (.inr (.inr (.inr (.inr (.inr (.inr (.inr (.inr (.inr (.inr (.inr (.inr (.inr (.inl ⟨c16, (Option.some.inj h).symm⟩))))))))))))))))
  rw [if_neg c16] at h
  by_cases c17 : p = 17
  · rw [if_pos c17] at h
    exact .inr (.inr (.inr (.inr (.inr (.inr (.inr (.inr (.inr (.inr (.inr (.inr (.inr (.inr (.inr (.inr (.inr (.inl ⟨c17, (Option.some.inj h).symm⟩)))))))))))))))))
  rw [if_neg c17] at h
  by_cases c18 : p = 18
  · rw [if_pos c18] at h
    exact .inr (.inr (.inr (.inr (.inr (.inr (.inr (.inr (.inr (.inr (.inr (.inr (.inr (.inr (.inr (.inr (.inr (.inr (⟨c18, (Option.some.inj h).symm⟩))))))))))))))))))
  rw [if_neg c18] at h
  cases h
theorem shape_rows {p : Int} {n k : Nat} (h : PyVbemar.shape p = some (n, k)) : k = 0 := by
  have h' := shape_cases h
  simp only [Prod.mk.injEq] at h'
  omega
theorem calls_cons {f : Nat} {p : Int} {r : List Int} {cs : List (List (List Int))} (h : PyFlat.calls PyVbemar.shape f (p :: r) = some cs) :
    ∃ n f' cs', PyVbemar.shape p = some (n, 0) ∧ n ≤ r.length ∧ PyFlat.calls PyVbemar.shape f' (r.drop n) = some cs' ∧ cs = [p :: r.take n] :: cs' := by
  cases f with
  | zero => cases h
  | succ f =>
    have h : (match PyFlat.call PyVbemar.shape (p :: r) with
      | none => none
      | some (c, t) => match PyFlat.calls PyVbemar.shape f t with
        | none => none
        | some cs => some (c :: cs)) = some cs := h
    have e0 : PyFlat.call PyVbemar.shape (p :: r) = match PyVbemar.shape p with
      | none => none
      | some (n, k) => if r.length < n then none else match PyFlat.rows k (r.drop n) with
        | none => none
        | some (xs, t) => some ((p :: r.take n) :: xs, t) := rfl
    rw [e0] at h
    cases e : PyVbemar.shape p with
    | none =>
      rw [e] at h
      cases h
    | some nk =>
      obtain ⟨n, k⟩ := nk
      have hk := shape_rows e
      subst hk
      rw [e] at h
      by_cases c : r.length < n
      · simp only [c, if_true] at h
        cases h
      · simp only [c, if_false, PyFlat.rows] at h
        cases e2 : PyFlat.calls PyVbemar.shape f (r.drop n) with
        | none =>
          rw [e2] at h
          cases h
        | some cs' =>
          rw [e2] at h
          cases h
          exact ⟨n, f, cs', rfl, by omega, e2, rfl⟩
theorem calls_nil {f : Nat} {cs : List (List (List Int))} (h : PyFlat.calls PyVbemar.shape f [] = some cs) : cs = [] := by
  cases f <;> (unfold PyFlat.calls at h; exact (Option.some.inj h).symm)
theorem whole_call {p : Int} {n k : Nat} {ns : List Int} (h : PyVbemar.shape p = some (n, k)) (hl : ns.length = n) : PyVbemar.whole [p :: ns] = [p :: ns] := by
  rcases shape_cases h with ⟨rfl, e⟩ | ⟨rfl, e⟩ | ⟨rfl, e⟩ | ⟨rfl, e⟩ | ⟨rfl, e⟩ | ⟨rfl, e⟩ | ⟨rfl, e⟩ | ⟨rfl, e⟩ | ⟨rfl, e⟩ | ⟨rfl, e⟩ | ⟨rfl, e⟩ | ⟨rfl, e⟩ | ⟨rfl, e⟩ | ⟨rfl, e⟩ | ⟨rfl, e⟩ | ⟨rfl, e⟩ | ⟨rfl, e⟩ | ⟨rfl, e⟩ | ⟨rfl, e⟩
  · cases e; match ns, hl with | [_, _, _], _ => rfl
  · cases e; match ns, hl with | [_, _, _, _], _ => rfl
  · cases e; match ns, hl with | [_], _ => rfl
  · cases e; match ns, hl with | [_], _ => rfl
  · cases e; match ns, hl with | [], _ => rfl
  · cases e; match ns, hl with | [_], _ => rfl
  · cases e; match ns, hl with | [_], _ => rfl
  · cases e; match ns, hl with | [_], _ => rfl
  · cases e; match ns, hl with | [_], _ => rfl
  · cases e; match ns, hl with | [_], _ => rfl
  · cases e; match ns, hl with | [_], _ => rfl
  · cases e; match ns, hl with | [_], _ => rfl
  · cases e; match ns, hl with | [_], _ => rfl
  · cases e; match ns, hl with | [_], _ => rfl
  · cases e; match ns, hl with | [_], _ => rfl
  · cases e; match ns, hl with | [], _ => rfl
  · cases e; match ns, hl with | [], _ => rfl
  · cases e; match ns, hl with | [], _ => rfl
  · cases e; match ns, hl with | [_], _ => rfl
theorem calls_whole : ∀ (m : Nat) {f : Nat} {l : List Int} {cs : List (List (List Int))}, l.length ≤ m → PyFlat.calls PyVbemar.shape f l = some cs → cs.map PyVbemar.whole = cs
  | _, _, [], cs, _, h => by
    rw [calls_nil h]
    rfl
  | 0, _, p :: r, cs, hm, _ => absurd hm (by simp)
  | m + 1, f, p :: r, cs, hm, h => by
    obtain ⟨n, f', cs', hs, hn, h', rfl⟩ := calls_cons h
    rw [List.length_cons] at hm
    rw [List.map_cons, whole_call hs (by rw [List.length_take]; omega), calls_whole m (by rw [List.length_drop]; omega) h']
theorem played_cons (s : VbemarNeutral.S) (c : List (List Int)) (cs : List (List (List Int))) :
    PyFlat.told (PyFlat.played VbemarNeutral.step s (c :: cs)) = (((VbemarNeutral.step s c).2.length : Int) :: (VbemarNeutral.step s c).2) ++ PyFlat.told (PyFlat.played VbemarNeutral.step (VbemarNeutral.step s c).1 cs) := rfl
theorem played_nil (s : VbemarNeutral.S) : PyFlat.told (PyFlat.played VbemarNeutral.step s []) = [] := rfl
theorem answers_start {l : List Int} (h : PyVbemar.answers_asked l = true) : ∃ cs, PyFlat.calls PyVbemar.shape l.length l = some cs ∧ cs.length ≤ 400 ∧
    PyVbemar.answers l = PyFlat.told (PyFlat.played VbemarNeutral.step VbemarNeutral.start cs) := by
  unfold PyVbemar.answers_asked PyVbemar.calls at h
  unfold PyVbemar.answers PyVbemar.calls
  cases e : PyFlat.calls PyVbemar.shape l.length l with
  | none =>
    rw [e] at h
    cases h
  | some cs =>
    rw [e] at h
    refine ⟨cs, rfl, ?_, ?_⟩
    · have h' : (PyFlat.atMost 400 (cs.map PyVbemar.whole) && VbemarNeutral.asked (cs.map PyVbemar.whole)) = true := h
      rw [Bool.and_eq_true] at h'
      have h1 : decide ((cs.map PyVbemar.whole).length ≤ 400) = true := h'.1
      rw [List.length_map] at h1
      exact of_decide_eq_true h1
    · show PyFlat.told (PyFlat.played VbemarNeutral.step VbemarNeutral.start (cs.map PyVbemar.whole)) = _
      rw [calls_whole _ (Nat.le_refl _) e]
def code (r : Row) : Nat := 3 * r.to + r.q
theorem short_from : ∀ (l : Sheet) (b : Nat), l.Pairwise (fun x y => before x y = true) → (∀ r ∈ l, b ≤ code r ∧ r.to < 4 ∧ r.q < 3) → l.length ≤ 12 - b
  | [], _, _, _ => Nat.zero_le _
  | x :: l, b, hp, h => by
    rw [List.pairwise_cons] at hp
    obtain ⟨h1, h2, h3⟩ := h x List.mem_cons_self
    have ih := short_from l (code x + 1) hp.2 fun r hr => by
      obtain ⟨_, g2, g3⟩ := h r (List.mem_cons_of_mem _ hr)
      refine ⟨?_, g2, g3⟩
      have hb := before_iff.mp (hp.1 r hr)
      unfold code at h1 ⊢
      omega
    rw [List.length_cons]
    unfold code at ih h1
    omega
theorem Srt.short {l : Sheet} (h : Srt l) : l.length ≤ 12 := short_from l 0 h.pw fun r hr => ⟨Nat.zero_le _, h.bd r hr⟩
theorem at_succ (i : Nat) : at_ ((i : Int) + 1) = i := by unfold at_; omega
end GM
end
section
set_option Elab.async false
set_option linter.all false
namespace GM
open Vbemar
theorem shown_len (l : Sheet) : (shown l).length = 3 * l.length := by
  induction l with
  | nil => rfl
  | cons x l ih =>
    unfold shown at ih ⊢
    rw [List.flatMap_cons, List.length_append, ih]
    show 3 + 3 * l.length = 3 * (l.length + 1)
    omega
theorem shownMsg_len (m : Msg) : (shownMsg m).length = 4 := by cases m <;> rfl
theorem flat_le {α : Type} {f : α → List Int} {c : Nat} : ∀ (l : List α), (∀ a ∈ l, (f a).length ≤ c) → (l.flatMap f).length ≤ c * l.length
  | [], _ => Nat.zero_le _
  | x :: l, h => by
    have h1 := h x List.mem_cons_self
    have h2 := flat_le l fun a ha => h a (List.mem_cons_of_mem _ ha)
    rw [List.flatMap_cons, List.length_append, List.length_cons, Nat.mul_succ]
    omega
theorem unm_len {N : Net} (w : WF N) : (unmatched N).length ≤ 240 := by
  have h1 : ∀ (p r : Nat), ((List.range N.quarters).flatMap fun q =>
    let x := amount (heldOf N p).sheet r q
    let y := amount (heldOf N r).sheet p q
    if p < r ∧ x + y ≠ 0 then [(p : Int) + 1, (r : Int) + 1, (q : Int) + 1, x, y] else []).length ≤ 15 := fun p r => by
    refine Nat.le_trans (flat_le (c := 5) _ fun q _ => ?_) ?_
    · dsimp only
      split
      · exact Nat.le_refl _
      · exact Nat.zero_le _
    · have := w.q3
      rw [List.length_range]
      omega
  have h2 : ∀ p : Nat, ((List.range (count N)).flatMap fun r => (List.range N.quarters).flatMap fun q =>
    let x := amount (heldOf N p).sheet r q
    let y := amount (heldOf N r).sheet p q
    if p < r ∧ x + y ≠ 0 then [(p : Int) + 1, (r : Int) + 1, (q : Int) + 1, x, y] else []).length ≤ 60 := fun p => by
    refine Nat.le_trans (flat_le (c := 15) _ fun r _ => h1 p r) ?_
    have := w.n4
    rw [List.length_range]
    show 15 * N.parties.length ≤ _
    omega
  refine Nat.le_trans (flat_le (c := 60) _ fun p _ => h2 p) ?_
  have := w.n4
  rw [List.length_range]
  show 60 * N.parties.length ≤ _
  omega
theorem srt_shown {l : Sheet} (h : Srt l) : (0 :: shown l).length ≤ 241 := by
  have := h.short
  rw [List.length_cons, shown_len]
  omega
theorem ok_party {N : Net} (w : WF N) (i : Nat) : POk i (party N i) := by
  by_cases h : i < N.parties.length
  · exact w.po i _ (party_at h)
  · have e : party N i = {} := by
      unfold party
      rw [List.getD_eq_getElem?_getD, List.getElem?_eq_none (by omega)]
      rfl
    rw [e]
    exact ⟨Ok.nil i, Ok.nil i, fun l h => nomatch h⟩
theorem ok_held {N : Net} (w : WF N) (i : Nat) : Ok i (heldOf N i).sheet := by
  by_cases h : i < N.held.length
  · exact w.ho i _ (held_at h)
  · have e : heldOf N i = {} := by
      unfold heldOf
      rw [List.getD_eq_getElem?_getD, List.getElem?_eq_none (by omega)]
      rfl
    rw [e]
    exact Ok.nil i
theorem final_ok {N : Net} (w : WF N) (i : Nat) : Srt (finalOf N i) := by
  rw [final_mall (ok_held w i)]
  exact mall_srt w.n4 w.q3
theorem ans_len {N : Net} (w : WF N) (c : Call) : (onNet N c).2.length ≤ 241 := by
  have hn := w.n4
  cases c with
  | open_ p q g => show 1 ≤ 241; decide
  | write p r q x =>
    simp only [onNet]
    split
    · show 1 ≤ 241; decide
    · split <;> (show 1 ≤ 241; decide)
  | clear p =>
    simp only [onNet]
    split <;> (show 1 ≤ 241; decide)
  | send p =>
    simp only [onNet]
    split
    · show 1 ≤ 241; decide
    · split
      · show 1 ≤ 241; decide
      · show 2 ≤ 241; decide
  | tick => show 4 ≤ 241; decide
  | deliver k =>
    simp only [onNet]
    split
    · show 1 ≤ 241; decide
    · split
      · rw [List.length_cons, shownMsg_len]
        decide
      · show 1 ≤ 241; decide
  | lose k =>
    simp only [onNet]
    split <;> (show 1 ≤ 241; decide)
  | double k =>
    simp only [onNet]
    split
    · show 1 ≤ 241; decide
    · split <;> (show 1 ≤ 241; decide)
  | calm n => show 4 ≤ 241; decide
  | party p =>
    simp only [onNet]
    split
    · show 1 ≤ 241; decide
    · show 6 ≤ 241; decide
  | house p =>
    simp only [onNet]
    split
    · show 1 ≤ 241; decide
    · show 3 ≤ 241; decide
  | draft p =>
    simp only [onNet]
    split
    · show 1 ≤ 241; decide
    · exact srt_shown (ok_party w _).draft.srt
  | held p =>
    simp only [onNet]
    split
    · show 1 ≤ 241; decide
    · exact srt_shown (ok_held w _).srt
  | final p =>
    simp only [onNet]
    split
    · show 1 ≤ 241; decide
    · split
      · show 1 ≤ 241; decide
      · exact srt_shown (final_ok w _)
  | belief p =>
    simp only [onNet]
    split
    · show 1 ≤ 241; decide
    · split
      · show 1 ≤ 241; decide
      · rename_i e
        exact srt_shown ((ok_party w _).final _ e)
  | flying =>
    show (0 :: N.flying.flatMap shownMsg).length ≤ 241
    have h := flat_le (f := shownMsg) (c := 4) N.flying fun m _ => Nat.le_of_eq (shownMsg_len m)
    have := w.f40
    rw [List.length_cons]
    omega
  | unmatched =>
    show (0 :: Vbemar.unmatched N).length ≤ 241
    have := unm_len w
    rw [List.length_cons]
    omega
  | now => show 3 ≤ 241; decide
  | total q =>
    simp only [onNet]
    split
    · show 1 ≤ 241; decide
    · show (0 :: (List.range (count N)).map fun p => position N p (at_ q)).length ≤ 241
      rw [List.length_cons, List.length_map, List.length_range]
      show N.parties.length + 1 ≤ _
      omega
theorem step_len {st : State} (w : ∀ N, st.net = some N → WF N) (c : Call) : (step st c).2.length ≤ 241 := by
  unfold step
  split
  · show 1 ≤ 241; decide
  · split
    · show 1 ≤ 241; decide
    · show 1 ≤ 241; decide
    · rename_i e _
      exact ans_len (w _ e) _
theorem stepN_len {st : State} (w : ∀ N, st.net = some N → WF N) (c : List (List Int)) : (stepNumbers st c).2.length ≤ 241 := by
  unfold stepNumbers
  split
  · exact step_len w _
  · show 1 ≤ 241; decide
theorem sum_append (a b : List Int) : (a ++ b).sum = a.sum + b.sum := by
  induction a with
  | nil => simp
  | cons x a ih =>
    rw [List.cons_append, List.sum_cons, List.sum_cons, ih]
    omega
def at1 (q : Nat) (r : Row) : Int := if r.q = q then r.amount else 0
theorem mrow_pos (N : Net) (p r q : Nat) : ∀ j, ((mrow N p r j).map (at1 q)).sum = if q < j then mt N p r q else 0
  | 0 => by
    rw [if_neg (Nat.not_lt_zero _)]
    rfl
  | j + 1 => by
    rw [mrow_succ, List.map_append, sum_append, mrow_pos N p r q j]
    by_cases c : mt N p r j = 0
    · rw [if_pos c]
      show _ + (0 : Int) = _
      by_cases d : q < j
      · rw [if_pos d, if_pos (by omega)]
        omega
      · rw [if_neg d]
        by_cases e : q = j
        · rw [if_pos (by omega), e, c]
          rfl
        · rw [if_neg (by omega)]
          rfl
    · rw [if_neg c]
      show _ + (at1 q { to := r, q := j, amount := mt N p r j } + (0 : Int)) = _
      unfold at1
      by_cases e : j = q
      · subst e
        rw [if_neg (by omega), if_pos rfl, if_pos (by omega)]
        show (0 : Int) + (mt N p r j + 0) = mt N p r j
        omega
      · rw [if_neg (show ¬ ({ to := r, q := j, amount := mt N p r j } : Row).q = q from e)]
        by_cases d : q < j
        · rw [if_pos d, if_pos (by omega)]
          omega
        · rw [if_neg d, if_neg (by omega)]
          rfl
theorem mall_pos (N : Net) (p q : Nat) (hq : q < N.quarters) : ∀ i, ((mall N p i).map (at1 q)).sum = ((List.range i).map fun r => mt N p r q).sum
  | 0 => rfl
  | i + 1 => by
    rw [mall_succ, List.map_append, sum_append, mall_pos N p q hq i, mrow_pos, if_pos hq, List.range_succ, List.map_append, sum_append]
    show _ = _ + (mt N p i q + 0)
    omega
theorem position_eq {N : Net} (w : WF N) {p q : Nat} (hq : q < N.quarters) : position N p q = ((List.range N.parties.length).map fun r => mt N p r q).sum := by
  unfold position
  rw [final_mall (ok_held w p)]
  exact mall_pos N p q hq _
/-- what a matched sheet says -/
theorem mall_amount (N : Net) (p r q i : Nat) : amount (mall N p i) r q = if r < i ∧ q < N.quarters then mt N p r q else 0 := by
  by_cases c : ∃ x ∈ mall N p i, x.to = r ∧ x.q = q
  · obtain ⟨x, hx, rfl, rfl⟩ := c
    have hk : KN (mall N p i) := by
      have h := mall_pw N p i
      unfold KN
      rw [List.Nodup, List.pairwise_map]
      exact h.imp fun h => before_key h
    have e := amount_mem hk hx
    rw [e]
    obtain ⟨h1, h2, h3⟩ := mall_mem hx
    rw [if_pos ⟨h1, h2⟩]
    unfold mall at hx
    obtain ⟨r', _, hr'⟩ := List.mem_flatMap.mp hx
    unfold mrow at hr'
    obtain ⟨q', _, hq'⟩ := List.mem_filterMap.mp hr'
    split at hq'
    · cases hq'
    · have e := Option.some.inj hq'
      subst e
      rfl
  · rw [amount_none fun x hx h => c ⟨x, hx, h⟩]
    by_cases d : r < i ∧ q < N.quarters
    · rw [if_pos d]
      by_cases e : mt N p r q = 0
      · exact e.symm
      · refine absurd ⟨{ to := r, q := q, amount := mt N p r q }, ?_, rfl, rfl⟩ c
        unfold mall
        refine List.mem_flatMap.mpr ⟨r, List.mem_range.mpr d.1, ?_⟩
        unfold mrow
        refine List.mem_filterMap.mpr ⟨q, List.mem_range.mpr d.2, ?_⟩
        rw [if_neg e]
    · rw [if_neg d]
theorem sorted_uniq {α : Type} {le : α → α → Prop} (anti : ∀ a b, le a b → le b a → a = b) : ∀ {l m : List α}, l.Perm m → l.Pairwise le → m.Pairwise le → l = m
  | [], m, p, _, _ => p.nil_eq
  | a :: l, [], p, _, _ => absurd p.length_eq (by simp)
  | a :: l, b :: m, p, h1, h2 => by
    rw [List.pairwise_cons] at h1 h2
    have e : a = b := by
      have ha : a ∈ b :: m := p.mem_iff.mp List.mem_cons_self
      have hb : b ∈ a :: l := p.mem_iff.mpr List.mem_cons_self
      rcases List.mem_cons.mp ha with e | ha
      · exact e
      · rcases List.mem_cons.mp hb with e | hb
        · exact e.symm
        · exact anti _ _ (h1.1 b hb) (h2.1 a ha)
    subst e
    rw [sorted_uniq anti ((List.perm_cons a).mp p) h1.2 h2.2]
theorem shown_snoc (l : List Row) (r : Row) : shown (l ++ [r]) = shown l ++ [(r.to : Int) + 1, (r.q : Int) + 1, r.amount] := by
  unfold shown
  rw [List.flatMap_append]
  rfl
theorem take_snoc {α : Type} {l : List α} {i : Nat} {x : α} (h : l[i]? = some x) : l.take (i + 1) = l.take i ++ [x] := by
  rw [List.take_succ, h]
  rfl
def ux (N : Net) (p r q : Nat) : Int := amount (heldOf N p).sheet r q
def u1 (N : Net) (p r j : Nat) : List Int := (List.range j).flatMap fun q => if ux N p r q + ux N r p q ≠ 0 then [(p : Int) + 1, (r : Int) + 1, (q : Int) + 1, ux N p r q, ux N r p q] else []
def u2 (N : Net) (p i : Nat) : List Int := (List.range i).flatMap fun k => u1 N p (p + 1 + k) N.quarters
def u3 (N : Net) (i : Nat) : List Int := (List.range i).flatMap fun p => u2 N p (count N - (p + 1))
theorem u1_succ (N : Net) (p r j : Nat) : u1 N p r (j + 1) = u1 N p r j ++ (if ux N p r j + ux N r p j ≠ 0 then [(p : Int) + 1, (r : Int) + 1, (j : Int) + 1, ux N p r j, ux N r p j] else []) := by
  unfold u1
  rw [List.range_succ, List.flatMap_append, List.flatMap_singleton]
theorem u2_succ (N : Net) (p i : Nat) : u2 N p (i + 1) = u2 N p i ++ u1 N p (p + 1 + i) N.quarters := by
  unfold u2
  rw [List.range_succ, List.flatMap_append, List.flatMap_singleton]
theorem u3_succ (N : Net) (i : Nat) : u3 N (i + 1) = u3 N i ++ u2 N i (count N - (i + 1)) := by
  unfold u3
  rw [List.range_succ, List.flatMap_append, List.flatMap_singleton]
theorem flat_nil {α β : Type} {f : α → List β} : ∀ (l : List α), (∀ a ∈ l, f a = []) → l.flatMap f = []
  | [], _ => rfl
  | x :: l, h => by rw [List.flatMap_cons, h x List.mem_cons_self, flat_nil l fun a ha => h a (List.mem_cons_of_mem _ ha)]; rfl
theorem unm_eq (N : Net) : unmatched N = u3 N (count N) := by
  unfold unmatched u3
  have key : ∀ p, p < count N → ((List.range (count N)).flatMap fun r => (List.range N.quarters).flatMap fun q =>
      let x := amount (heldOf N p).sheet r q
      let y := amount (heldOf N r).sheet p q
      if p < r ∧ x + y ≠ 0 then [(p : Int) + 1, (r : Int) + 1, (q : Int) + 1, x, y] else []) = u2 N p (count N - (p + 1)) := fun p hp => by
    have e : List.range (count N) = List.range (p + 1) ++ (List.range (count N - (p + 1))).map (p + 1 + ·) := by
      rw [← List.range_add]
      congr 1
      omega
    rw [e, List.flatMap_append, flat_nil (List.range (p + 1)) fun r hr => flat_nil _ fun q _ => by
      have := List.mem_range.mp hr
      dsimp only
      rw [if_neg (fun h => by omega)], List.nil_append, List.flatMap_map]
    unfold u2 u1
    congr 1
    funext k
    congr 1
    funext q
    show (if p < p + 1 + k ∧ ux N p (p + 1 + k) q + ux N (p + 1 + k) p q ≠ 0 then [(p : Int) + 1, ((p + 1 + k : Nat) : Int) + 1, (q : Int) + 1, ux N p (p + 1 + k) q, ux N (p + 1 + k) p q] else []) = _
    by_cases c : ux N p (p + 1 + k) q + ux N (p + 1 + k) p q ≠ 0
    · rw [if_pos ⟨by omega, c⟩, if_pos c]
    · rw [if_neg (fun h => c h.2), if_neg c]
  generalize hn : count N = n at key ⊢
  have : ∀ m, m ≤ n → ((List.range m).flatMap fun p => (List.range n).flatMap fun r => (List.range N.quarters).flatMap fun q =>
      let x := amount (heldOf N p).sheet r q
      let y := amount (heldOf N r).sheet p q
      if p < r ∧ x + y ≠ 0 then [(p : Int) + 1, (r : Int) + 1, (q : Int) + 1, x, y] else []) = (List.range m).flatMap fun p => u2 N p (n - (p + 1)) := fun m => by
    induction m with
    | zero => intro _; rfl
    | succ m ih =>
      intro hm
      rw [List.range_succ, List.flatMap_append, List.flatMap_append, ih (by omega), List.flatMap_singleton, List.flatMap_singleton, key m (by omega)]
  exact this n (Nat.le_refl _)
def tot (N : Net) (p q i : Nat) : Int := ((List.range i).map fun r => mt N p r q).sum
end GM
end
section
set_option Elab.async false
set_option linter.all false
set_option maxRecDepth 100000
namespace L2
open PySem
section
variable {κ : Type} [DecidableEq κ]
def dropT (xs : List (κ × Addr × Value)) (k : κ) : List (κ × Addr × Value) := xs.filter fun x => decide (x.1 ≠ k)
theorem dropT_no {xs : List (κ × Addr × Value)} {k : κ} (h : k ∉ xs.map (·.1)) : dropT xs k = xs := by
  unfold dropT
  rw [List.filter_eq_self]
  intro y hy
  exact decide_eq_true fun e => h (List.mem_map.mpr ⟨y, hy, e⟩)
theorem erase_dropT : ∀ {xs : List (κ × Addr × Value)} {j : Nat} {k : κ} {p : Addr × Value}, (xs.map (·.1)).Nodup → xs[j]? = some (k, p) → xs.eraseIdx j = dropT xs k
  | [], j, k, p, _, h => by simp at h
  | x :: xs, 0, k, p, hn, h => by
    have e : x = (k, p) := by simpa using h
    rw [List.map_cons, List.nodup_cons, e] at hn
    rw [List.eraseIdx_cons_zero]
    show xs = dropT (x :: xs) k
    unfold dropT
    rw [List.filter_cons, if_neg (by simp [e])]
    exact (dropT_no hn.1).symm
  | x :: xs, j + 1, k, p, hn, h => by
    have h' : xs[j]? = some (k, p) := by simpa using h
    rw [List.map_cons, List.nodup_cons] at hn
    have hx : ¬ x.1 = k := fun e => hn.1 (List.mem_map.mpr ⟨(k, p), List.mem_of_getElem? h', e.symm⟩)
    rw [List.eraseIdx_cons_succ, erase_dropT hn.2 h']
    unfold dropT
    rw [List.filter_cons, if_pos (by simp [hx])]
end
theorem map_eraseIdx {α β : Type} (f : α → β) : ∀ (l : List α) (j : Nat), (l.map f).eraseIdx j = (l.eraseIdx j).map f
  | [], _ => rfl
  | x :: l, 0 => rfl
  | x :: l, j + 1 => by
    rw [List.map_cons, List.eraseIdx_cons_succ, List.eraseIdx_cons_succ, List.map_cons, map_eraseIdx f l j]
section
variable {prog : Program} {w : World} {κ : Type} [DecidableEq κ] {knd : HeapKind prog w κ} {A : Around} {E : Value → Shared → Prop} {s : Shared}
theorem takeOutT {d a : Addr} {xs : List (κ × Addr × Value)} {k : κ} {Q : Option DictEntry → Shared → Prop} (hu : knd.room A) (hk : knd.is s.heap k a) (hm : s.heap.DictOfH knd d xs) (hz : xs.length ≤ sizeLine)
    (h0 : atKey xs k = none → Q none { s with toks := s.toks + knd.draws k })
    (h1 : ∀ (e : DictEntry) (p : Addr × Value), atKey xs k = some p → e.val = p.2 → ∀ h', h'.DictOfH knd d (dropT xs k) → Heap.SameBut d s.heap h' → Q (some e) { s with heap := h', toks := s.toks + knd.draws k }) :
    wpAny (model prog w) A (Builtin.Dict.takeOut d (.ref a)) Q E s := by
  obtain ⟨ob, es, ep, hob, hex, hdt, hes, his, hnd⟩ := hm
  have hz1 : es.size ≤ sizeLine := by have e := size_of_entries hes; omega
  unfold Builtin.Dict.takeOut
  try with_reducible refine wpAny_holding ?_
  refine wpAny_bind (knd.pyHash hu hk ?_)
  refine wpAny_bind (wpAny_dictFind_heap (s := { s with toks := s.toks + knd.draws k }) hu hk hob hdt hes his hnd (fun no => ?_) fun j p hj => ?_)
  · exact wpAny_pure (h0 (atKey_none_of_get no))
  · refine wpAny_bind (wpAny_dictEntries (s := { s with toks := s.toks + knd.draws k }) hob hdt ?_)
    rw [entry_at hes j, hj]
    have new : (s.heap.update d (Obj.mapDictKeys (·.eraseIdxIfInBounds j))).DictOfH knd d (dropT xs k) := by
      refine ⟨_, _, ep + 1, Heap.get?_update_self _ hob (Obj.isFreed_of_dict (Obj.data_mapDictKeys hdt _)), hex.mapDictKeys _, Obj.data_mapDictKeys hdt _, ?_, fun x hx => ?_, ?_⟩
      · rw [← erase_dropT hnd hj]
        obtain ⟨l⟩ := es
        have hl : l = xs.map (entryOfKey knd) := hes
        simp [hl, map_eraseIdx]
      · exact knd.keeps (his x (List.mem_filter.mp hx).1) hob hdt (Heap.SameBut.update ..)
      · exact hnd.sublist (List.filter_sublist.map _)
    exact wpAny_bind (wpAny_updateDictKeys (hz := hz1) (s := { s with toks := s.toks + knd.draws k }) hob hdt (wpAny_pure (h1 _ p (atKey_of_get hnd hj) rfl _ new (Heap.SameBut.update ..))))
theorem popT (knd : HeapKind prog w κ) (d a : Addr) (hd : (d == sysModules) = false) (v0 : Value) :
    MeetsIn prog w (Builtin.«dict.pop» ⟨[.ref d, .ref a, v0], []⟩) (fun A R s => knd.room A.in1 ∧ ∃ k xs, knd.is s.heap k a ∧ s.heap.DictOfH knd d xs ∧ xs.length ≤ sizeLine ∧
      (atKey xs k = none → ∀ t, R (.ok (.ret v0)) { s with toks := t }) ∧
      (∀ p, atKey xs k = some p → ∀ h' t, h'.DictOfH knd d (dropT xs k) → Heap.SameBut d s.heap h' → R (.ok (.ret p.2)) { s with heap := h', toks := t })) :=
  .of_wp fun A R s ⟨hu, k, xs, hk, hm, hz, h0, h1⟩ => by
    obtain ⟨ob, es, ep, hob, hex, hdt, hes, his, hnd⟩ := id hm
    unfold Builtin.«dict.pop»
    refine wpAny_bind ?_
    unfold Builtin.Dict.keyAndDefault
    refine wpAny_bind (wpAny_notOrdered_dict hm.typeIs ?_)
    show wpAny _ _ (pure (d, Value.ref a, some v0)) _ _ s
    refine wpAny_pure ?_
    simp only [keyPart, Option.isSome_none, Bool.false_eq_true, if_false]
    refine wpAny_bind (wpAny_dictEntries hob hdt ?_)
    refine wpAny_bind (wpAny_pure ?_)
    by_cases c : es.isEmpty = true
    · simp only [c, if_true]
      have e0 : xs = [] := by
        have h := size_of_entries hes
        rw [Array.isEmpty_iff.mp c] at h
        exact List.length_eq_zero_iff.mp h.symm
      refine wpAny_bind (wpAny_rule ?_)
      refine wpAny_bind (wpAny_pure ?_)
      simp only [Option.isNone_none, if_true]
      refine wpAny_bind (wpAny_missedRemoval_other hd ?_)
      exact wpAny_bind (wpAny_rule (wpAny_pure ⟨v0, rfl, h0 (by rw [e0]; rfl) s.toks⟩))
    · simp only [c, if_false, Bool.false_eq_true]
      refine wpAny_bind (takeOutT hu hk hm hz (fun no => ?_) fun e p hp hev h' hm' hs' => ?_)
      · simp only [Option.isNone_none, if_true]
        refine wpAny_bind (wpAny_missedRemoval_other hd ?_)
        exact wpAny_bind (wpAny_rule (wpAny_pure ⟨v0, rfl, h0 no _⟩))
      · simp only [Option.isNone_some, Bool.false_eq_true, if_false]
        exact wpAny_bind (wpAny_letGo (wpAny_pure ⟨e.val, rfl, by rw [hev]; exact h1 p hp h' _ hm' hs'⟩))
theorem len0T (knd : HeapKind prog w κ) (d : Addr) (hd : (d == sysModules) = false) :
    MeetsIn prog w (Builtin.«dict.__len__» ⟨[.ref d], []⟩) (fun _ R s => ∃ xs, s.heap.DictOfH knd d xs ∧ R (.ok (.ret (.int xs.length s.toks))) { s with toks := s.toks + 1 }) :=
  .of_wp fun A R s ⟨xs, hm, h⟩ => by
    obtain ⟨ob, es, ep, hob, hex, hdt, hes, his, hnd⟩ := hm
    show wpAny _ _ (dictSize d >>= _) _ _ s
    unfold dictSize
    refine wpAny_bind (wpAny_bind (wpAny_dictEntries hob hdt (wpAny_pure ?_)))
    show wpAny _ _ (Builtin.Dict.pendingCount d >>= _) _ _ s
    refine wpAny_bind (wpAny_pendingCount_other hd ?_)
    refine wpAny_ret_mkInt ?_
    rw [Nat.add_zero, size_of_entries hes]
    exact h
theorem lenT {d : Addr} {xs : List (κ × Addr × Value)} {Q : Value → Shared → Prop} (hd : (d == sysModules) = false) (hm : s.heap.DictOfH knd d xs) (hz : (xs.length : Int) < 2 ^ 63)
    (h : Q (.int xs.length (s.toks + 1)) { s with toks := s.toks + 1 + 1 }) : wpAny (model prog w) A (call (.builtin "len") [.ref d]) Q E s := by
  refine Calls.call_function_entry kind_len plain_len entry_len (args_len1 _) ?_
  unfold Builtin.«len»
  refine wpAny_bind (m := oneArg "len" _) (wpAny_pure ?_)
  refine wpAny_bind (m := callSpecial? (.ref d) (Str.ofString "__len__")) (wpAny_callSpecial?_slot (name := Str.ofString "__len__") hm.typeIs F.slot_dict_len
    (call_meetsIn F.slot_dict_len hm.typeIs F.entry_dict_len (F.args_dict_len_1 _) (len0T knd d hd) ⟨xs, hm, ?_⟩))
  show wpAny _ _ _ _ _ { s with toks := s.toks + 1 }
  refine wpAny_bind (wpAny_holding (wpAny_pure ?_))
  refine wpAny_bind (wpAny_letGo ?_)
  show wpAny _ _ (if ((xs.length : Nat) : Int) < 0 then _ else _) _ _ _
  rw [if_neg (by omega)]
  show wpAny _ _ (if ((xs.length : Nat) : Int) ≥ 2 ^ 63 then _ else _) _ _ _
  rw [if_neg (by omega)]
  exact wpAny_bind (wpAny_mkInt (wpAny_pure ⟨_, rfl, h⟩))
end
theorem filter_one : ∀ {l : List DictEntry} (h : Int), (l.map (·.hash)).Nodup → (l.filter fun e => e.hash == h).length ≤ 1
  | [], _, _ => Nat.zero_le _
  | e :: l, h, hn => by
    rw [List.map_cons, List.nodup_cons] at hn
    rw [List.filter_cons]
    by_cases c : e.hash = h
    · rw [if_pos (by simp [c])]
      have e0 : (l.filter fun e => e.hash == h) = [] := by
        rw [List.filter_eq_nil_iff]
        intro y hy
        have : ¬ y.hash = h := fun z => hn.1 (List.mem_map.mpr ⟨y, hy, z.trans c.symm⟩)
        simpa using this
      rw [e0]
      exact Nat.le_refl _
    · rw [if_neg (by simpa using c)]
      exact filter_one h hn.2
section
variable {prog : Program} {w : World} {κ : Type} [DecidableEq κ] {kk : KeyKind prog w κ} {A : Around} {E : Value → Shared → Prop} {s : Shared}
theorem quietT {ks : List κ} {a : Addr} {Q : Bool → Shared → Prop} (hk : IsTupleKey kk s.heap ks a) (h : Q false s) : wpAny (model prog w) A (Builtin.Dict.quietEq (.ref a)) Q E s := by
  unfold Builtin.Dict.quietEq
  refine wpAny_bind (wpAny_specialOf hk.typeIs F.slot_tuple_eq.lookup (wpAny_pure ?_))
  have e : (some (Value.builtin "tuple.__eq__") == some (Value.builtin "object.__eq__")) = false := by decide
  rw [e]
  exact h
theorem entriesT {nm : String} {d : Addr} {ob : Obj} {es : Array DictEntry} {ep : Nat} {xs : List (List κ × Addr × Value)} {Q : Array DictEntry → Shared → Prop} (hob : s.heap.get? d = some ob) (hdt : ob.data = .dict es ep)
    (hes : es.toList = xs.map (entryOfKey (tupleKind kk))) (his : ∀ x ∈ xs, (tupleKind kk).is s.heap x.1 x.2.1) (hh : (xs.map fun x => (tupleKind kk).hash x.1).Nodup) (h : Q es s) :
    wpAny (model prog w) A (Builtin.Dict.entriesForEmpty nm d) Q E s := by
  unfold Builtin.Dict.entriesForEmpty
  refine wpAny_bind (wpAny_dictEntries hob hdt ?_)
  refine wpAny_bind ?_
  rw [← Array.forIn_toList]
  have hh' : (es.toList.map (·.hash)).Nodup := by
    rw [hes, List.map_map]
    exact hh
  refine wpAny_forIn_list _ (fun rest _ s' => s' = s ∧ ∀ e ∈ rest, e ∈ es.toList) _ ?_ ?_ _ _ ⟨rfl, fun e he => he⟩
  · rintro e rest b s' ⟨rfl, hr⟩
    have he : e ∈ xs.map (entryOfKey (tupleKind kk)) := hes ▸ hr e List.mem_cons_self
    obtain ⟨x, hx, rfl⟩ := List.mem_map.mp he
    refine wpAny_bind (quietT (his x hx) ?_)
    have hf : ¬ (es.filter (·.hash == (entryOfKey (tupleKind kk) x).hash)).size > 1 := by
      have q := filter_one (entryOfKey (tupleKind kk) x).hash hh'
      have e1 : (es.filter (·.hash == (entryOfKey (tupleKind kk) x).hash)).size = (es.toList.filter fun e => e.hash == (entryOfKey (tupleKind kk) x).hash).length := by
        rw [← Array.length_toList, Array.toList_filter]
      omega
    simp only [Bool.not_false, if_true]
    rw [if_neg hf]
    exact wpAny_pure ⟨rfl, fun y hy => hr y (List.mem_cons_of_mem _ hy)⟩
  · rintro b s' ⟨rfl, _⟩
    exact wpAny_pure h
theorem mergeT {nm : String} {d o : Addr} {more : List (List κ × Addr × Value)} {Q : Unit → Shared → Prop} (hdo : d ≠ o) (hoS : (o == sysModules) = false)
    (hd : s.heap.DictOfH (tupleKind kk) d []) (ho : s.heap.DictOfH (tupleKind kk) o more) (hz : more.length ≤ sizeLine) (hh : (more.map fun x => (tupleKind kk).hash x.1).Nodup)
    (hQ : ∀ h', h'.DictOfH (tupleKind kk) d more → Heap.SameBut d s.heap h' → Q () { s with heap := h' }) : wpAny (model prog w) A (Builtin.Dict.mergeDict nm d o) Q E s := by
  obtain ⟨od, ed, pd, hod, hxd, hdd, hed, hid, hnd⟩ := id hd
  obtain ⟨oo, eo, po, hoo, hxo, hdo', heo, hio, hno⟩ := id ho
  have ed0 : ed = #[] := by
    have q := size_of_entries hed
    exact Array.size_eq_zero_iff.mp q
  unfold Builtin.Dict.mergeDict
  rw [if_neg (by simpa using hdo)]
  unfold Builtin.Dict.showsAll
  rw [if_neg (by rw [hoS]; exact Bool.false_ne_true)]
  refine wpAny_bind (wpAny_pure ?_)
  refine wpAny_bind (wpAny_dictEntries hoo hdo' ?_)
  cases more with
  | nil =>
    have eo0 : eo = #[] := Array.size_eq_zero_iff.mp (size_of_entries heo)
    subst eo0
    have few : (decide ((#[] : Array DictEntry).size ≤ 8) && (#[] : Array DictEntry).all fun e => (keyPart e.key).isSome) = true := by simp
    dsimp only
    simp only [few, Bool.not_true, Bool.false_eq_true, if_false]
    refine wpAny_bind (wpAny_dictEpoch hoo hdo' ?_)
    refine wpAny_bind (wpAny_dictEntries hoo hdo' ?_)
    refine wpAny_bind ?_
    rw [Std.Legacy.Range.forIn_eq_forIn_range']
    exact wpAny_pure (wpAny_pure (hQ _ hd (Heap.SameBut.refl _ _)))
  | cons x more =>
    have few : (decide (eo.size ≤ 8) && eo.all fun e => (keyPart e.key).isSome) = false := by
      have h1 : (eo.all fun e => (keyPart e.key).isSome) = false := by
        rw [← Array.all_toList, heo, List.map_cons, List.all_cons]
        rfl
      rw [h1, Bool.and_false]
    dsimp only
    simp only [few, Bool.not_false, if_true]
    refine wpAny_bind (wpAny_dictEntries hod hdd ?_)
    rw [ed0]
    simp only [Array.isEmpty_empty, if_true]
    refine wpAny_bind (entriesT hoo hdo' heo hio hh ?_)
    have hne : (!eo.isEmpty) = true := by
      have q := size_of_entries heo
      rw [List.length_cons] at q
      cases c : eo.isEmpty with
      | false => rfl
      | true =>
        rw [Array.isEmpty_iff.mp c] at q
        cases q
    simp only [hne, if_true]
    have hto : eo.size ≤ sizeLine + 1 := by have q := size_of_entries heo; omega
    refine wpAny_bind (wpAny_updateDictKeysTo hod hdd (wpAny_pure (hQ _ ⟨_, _, pd + 1, Heap.get?_update_self _ hod (Obj.isFreed_of_dict (Obj.data_mapDictKeys hdd _)), hxd.mapDictKeys _, Obj.data_mapDictKeys hdd _, heo, fun y hy => ?_, hno⟩ (Heap.SameBut.update ..))) hto)
    exact (tupleKind kk).keeps (hio y hy) hod hdd (Heap.SameBut.update ..)
end
end L2
end
section
set_option Elab.async false
set_option linter.all false
set_option maxRecDepth 100000
namespace L2
open PySem
section
variable {prog : Program} {w : World} {A : Around} {E : Value → Shared → Prop} {s : Shared}
theorem nextT_item {jt tt : Addr} {n : Nat} {its : Array Value} {v : Value} {Q : Value → Shared → Prop} (hj : s.heap.IsTupleIter jt tt n)
    (ht : s.heap.IsTuple tt its) (hv : its[n]? = some v) (hQ : ∀ g, g.IsTupleIter jt tt (n + 1) → Heap.SameBut jt s.heap g → Q v { s with heap := g }) :
    wpAny (model prog w) A (Builtin.SmallTypes.nextOf (.ref jt)) Q E s := by
  obtain ⟨oj, hoj, hcj, hdj⟩ := id hj
  obtain ⟨ot, hot, _, nt, hdt⟩ := ht
  unfold Builtin.SmallTypes.nextOf
  refine wpAny_bind (wpAny_callSpecial?_slot (name := Str.ofString "__next__") hj.typeIs F.slot_tuple_iterator_next
    (wpAny_call_entry F.slot_tuple_iterator_next hj.typeIs F.entry_tuple_iterator_next ?_ (F.args_tuple_iterator_next_1 _)))
  show wpAny _ _ (field (.ref jt) 0 >>= _) _ _ s
  refine wpAny_bind (wpAny_field hoj hdj (x := .ref tt) rfl ?_)
  show wpAny _ _ (if (Value.ref tt == Value.none) = true then _ else _) _ _ s
  rw [if_neg (show ¬ ((Value.ref tt == Value.none) = true) from Bool.false_ne_true)]
  show wpAny _ _ (field (.ref jt) 1 >>= _) _ _ s
  refine wpAny_bind (wpAny_field hoj hdj (x := .int n 0) rfl ?_)
  show wpAny _ _ (seqItems? (.ref tt) >>= _) _ _ s
  refine wpAny_bind (wpAny_seqItems hot hdt ?_)
  simp only [Int.toNat_natCast, hv]
  refine wpAny_bind (wpAny_setField hoj hdj (by simp) (wpAny_pure ⟨v, rfl, wpAny_pure (hQ _ ?_ (Heap.SameBut.update ..))⟩))
  refine ⟨_, Heap.get?_update_self _ hoj (Obj.isFreed_of_fields (Obj.data_mapFields hdj _)), (Obj.cls_mapFields ..).trans hcj, ?_⟩
  rw [Obj.data_mapFields hdj]
  simp [rawInt]
theorem nextT_end {jt tt : Addr} {n : Nat} {its : Array Value} {Q : Value → Shared → Prop} (hh : A.handled = none) (hj : s.heap.IsTupleIter jt tt n)
    (ht : s.heap.IsTuple tt its) (hv : its[n]? = none)
    (hE : ∀ g e, Heap.ExtBut jt s.heap g → (∃ o, g.get? e = some o ∧ o.cls = .type "StopIteration") → E (.ref e) { s with heap := g }) :
    wpAny (model prog w) A (Builtin.SmallTypes.nextOf (.ref jt)) Q E s := by
  obtain ⟨oj, hoj, hcj, hdj⟩ := id hj
  obtain ⟨ot, hot, _, nt, hdt⟩ := ht
  unfold Builtin.SmallTypes.nextOf
  refine wpAny_bind (wpAny_callSpecial?_slot (name := Str.ofString "__next__") hj.typeIs F.slot_tuple_iterator_next
    (wpAny_call_entry F.slot_tuple_iterator_next hj.typeIs F.entry_tuple_iterator_next ?_ (F.args_tuple_iterator_next_1 _)))
  show wpAny _ _ (field (.ref jt) 0 >>= _) _ _ s
  refine wpAny_bind (wpAny_field hoj hdj (x := .ref tt) rfl ?_)
  show wpAny _ _ (if (Value.ref tt == Value.none) = true then _ else _) _ _ s
  rw [if_neg (show ¬ ((Value.ref tt == Value.none) = true) from Bool.false_ne_true)]
  show wpAny _ _ (field (.ref jt) 1 >>= _) _ _ s
  refine wpAny_bind (wpAny_field hoj hdj (x := .int n 0) rfl ?_)
  show wpAny _ _ (seqItems? (.ref tt) >>= _) _ _ s
  refine wpAny_bind (wpAny_seqItems hot hdt ?_)
  simp only [Int.toNat_natCast, hv]
  refine wpAny_bind (wpAny_rule (wpAny_bind (wpAny_setField hoj hdj (by simp) ?_)))
  show wpAny _ _ (newExc (.type "StopIteration") [] >>= _) _ _ _
  refine wpAny_bind ?_
  simp only [newTuple, newExc]
  refine wpAny_bind (wpAny_newObj_type ?_ (by size_fits))
  refine wpAny_bind (m := firstArgMember _ _) (wpAny_of_eq (a := Value.none) (by first | rfl | (simp only [firstArgMember]; done)) ?_)
  refine wpAny_newObj_type ?_ (by size_fits)
  simp only [raiseNew]
  refine wpAny_bind (wpAny_handled ?_)
  first | rw [show A.in1.handled = none from hh] | rw [hh]
  refine wpAny_bind (wpAny_pure (wpAny_throw ?_))
  exact hE _ _ (((Heap.SameBut.update ..).extBut.push _).push _) ⟨_, Heap.get?_push_size _ rfl, rfl⟩
theorem zipT_item {zz ti to' j1 j2 la tb : Addr} {n1 n2 : Nat} {us vs : Array Value} {u v c d : Value} {Q : Value → Shared → Prop} (D : ZipApart zz ti to' j1 j2 la tb)
    (kz : IsZip s.heap zz ti to' .none) (kti : IsPair s.heap ti (.ref j1) (.ref j2)) (kto : IsPair s.heap to' c d)
    (k1 : s.heap.IsListIter j1 la n1) (k2 : s.heap.IsTupleIter j2 tb n2) (ka : s.heap.IsList la us) (kb : s.heap.IsTuple tb vs) (hu : us[n1]? = some u) (hv : vs[n2]? = some v)
    (hQ : ∀ g, IsZip g zz ti to' (rawInt s.heap.objs.size) → IsPair g to' u v → g.IsListIter j1 la (n1 + 1) → g.IsTupleIter j2 tb (n2 + 1) → IsPair g s.heap.objs.size u v →
      (∀ b o, b ≠ zz → b ≠ to' → b ≠ j1 → b ≠ j2 → s.heap.get? b = some o → g.get? b = some o) → Q (.ref s.heap.objs.size) { s with heap := g }) :
    wpAny (model prog w) A (Builtin.«zip.__next__» ⟨[.ref zz], []⟩) (fun fin s' => ∃ v, fin = .done (.ret v) ∧ Q v s') E s := by
  show wpAny _ _ (field (.ref zz) 2 >>= _) _ _ _
  refine wpAny_bind (wpAny_field kz rfl (x := .bool false) rfl ?_)
  show wpAny _ _ (field (.ref zz) 3 >>= _) _ _ _
  refine wpAny_bind (wpAny_field kz rfl (x := .ref ti) rfl ?_)
  refine wpAny_bind (wpAny_seqItems kti rfl ?_)
  show wpAny _ _ (Builtin.SmallTypes.ownedTupleIsFree (.ref zz) >>= _) _ _ _
  refine wpAny_bind ?_
  unfold Builtin.SmallTypes.ownedTupleIsFree
  refine wpAny_bind (wpAny_field kz rfl (x := .none) rfl (wpAny_pure ?_))
  simp only [if_true]
  refine wpAny_bind (wpAny_rule ?_)
  refine wpAny_bind (wpAny_field kz rfl (x := .ref to') rfl ?_)
  refine wpAny_bind (wpAny_setField_rec kz (by simp) fun g1 kz1 q1 => ?_)
  replace kz1 : IsZip g1 zz ti to' .ellipsis := kz1
  refine wpAny_bind ?_
  simp only [List.zipIdx_nil, List.zipIdx_cons, List.forIn_nil, List.forIn_cons]
  refine wpAny_bind (wpAny_bind (wpAny_onRaise ?_))
  show wpAny _ _ (Builtin.SmallTypes.nextOf (.ref j1) >>= _) _ _ _
  refine wpAny_bind (wpAny_nextOf_list_item (k1.extBut q1.extBut D.i1z) (ka.extBut q1.extBut D.l1z) hu fun g2 k12 q2 => wpAny_pure ?_)
  have kto2 : IsPair g2 to' c d := q2.extBut _ _ D.TOi1 (q1.extBut _ _ D.TOz kto)
  refine wpAny_bind (wpAny_seqItems kto2 rfl ?_)
  refine wpAny_bind (wpAny_updateSeq_pair kto2 fun g3 kto3 q3 => ?_)
  replace kto3 : IsPair g3 to' u d := kto3
  refine wpAny_bind (wpAny_letGo (wpAny_pure ?_))
  refine wpAny_bind (wpAny_bind (wpAny_onRaise ?_))
  show wpAny _ _ (Builtin.SmallTypes.nextOf (.ref j2) >>= _) _ _ _
  refine wpAny_bind (nextT_item (((k2.extBut q1.extBut D.i2z).extBut q2.extBut D.i12.symm).extBut q3.extBut D.TOi2.symm)
    (((kb.extBut q1.extBut D.l2z).extBut q2.extBut D.l2i1).extBut q3.extBut D.l2TO) hv fun g4 k24 q4 => wpAny_pure ?_)
  have kto4 : IsPair g4 to' u d := q4.extBut _ _ D.TOi2 kto3
  refine wpAny_bind (wpAny_seqItems kto4 rfl ?_)
  refine wpAny_bind (wpAny_updateSeq_pair kto4 fun g5 kto5 q5 => ?_)
  replace kto5 : IsPair g5 to' u v := kto5
  refine wpAny_bind (wpAny_letGo (wpAny_pure (wpAny_pure ?_)))
  refine wpAny_bind (wpAny_seqItems kto5 rfl ?_)
  refine wpAny_bind (wpAny_newTuple ?_)
  have hsz : g5.objs.size = s.heap.objs.size := by rw [q5.1, q4.1, q3.1, q2.1, q1.1]
  have kz5 : IsZip g5 zz ti to' .ellipsis := q5.extBut _ _ D.TOz.symm (q4.extBut _ _ D.i2z.symm (q3.extBut _ _ D.TOz.symm (q2.extBut _ _ D.i1z.symm kz1)))
  have kk5 : ∀ b o, b ≠ zz → b ≠ to' → b ≠ j1 → b ≠ j2 → s.heap.get? b = some o → g5.get? b = some o := fun b o c1 c2 c3 c4 e =>
    q5.extBut _ _ c2 (q4.extBut _ _ c4 (q3.extBut _ _ c2 (q2.extBut _ _ c3 (q1.extBut _ _ c1 e))))
  have k15 : g5.IsListIter j1 la (n1 + 1) := ((k12.extBut q3.extBut D.TOi1.symm).extBut q4.extBut D.i12).extBut q5.extBut D.TOi1.symm
  have k25 : g5.IsTupleIter j2 tb (n2 + 1) := k24.extBut q5.extBut D.TOi2.symm
  have zlt : zz < g5.objs.size := Heap.lt_size kz5
  show wpAny _ _ (Builtin.SmallTypes.ownedTupleHandOut (.ref zz) (.ref g5.objs.size) >>= _) _ _ _
  refine wpAny_bind ?_
  unfold Builtin.SmallTypes.ownedTupleHandOut
  have kz6 : IsZip (g5.push { cls := .type "tuple", data := .seq #[u, v] }) zz ti to' .ellipsis := Heap.get?_push_of_some _ kz5
  refine wpAny_bind (wpAny_setField_rec kz6 (by simp) fun g7 kz7 q7 => ?_)
  replace kz7 : IsZip g7 zz ti to' (rawInt g5.objs.size) := kz7
  refine wpAny_setField_rec kz7 (by simp) fun g8 kz8 q8 => ?_
  replace kz8 : IsZip g8 zz ti to' (rawInt g5.objs.size) := kz8
  have up : ∀ b o, b ≠ zz → g5.get? b = some o → g8.get? b = some o := fun b o c1 e => q8.extBut _ _ c1 (q7.extBut _ _ c1 (Heap.get?_push_of_some _ e))
  have kt8 : IsPair g8 g5.objs.size u v := q8.extBut _ _ (Nat.ne_of_gt zlt) (q7.extBut _ _ (Nat.ne_of_gt zlt) (Heap.get?_push_size _ rfl))
  rw [hsz] at kz8 kt8
  refine wpAny_pure ⟨_, rfl, ?_⟩
  show Q (.ref g5.objs.size) _
  rw [hsz]
  exact hQ g8 kz8 (up _ _ D.TOz kto5) (k15.at fun o e => up _ o D.i1z e) (k25.at fun o e => up _ o D.i2z e) kt8 fun b o c1 c2 c3 c4 e => up b o c1 (kk5 b o c1 c2 c3 c4 e)
theorem zipT_end {zz ti to' j1 j2 la tb : Addr} {n1 n2 : Nat} {us vs : Array Value} {c d : Value} {Q : Fin → Shared → Prop} (hh : A.handled = none) (D : ZipApart zz ti to' j1 j2 la tb)
    (kz : IsZip s.heap zz ti to' .none) (kti : IsPair s.heap ti (.ref j1) (.ref j2)) (kto : IsPair s.heap to' c d)
    (k1 : s.heap.IsListIter j1 la n1) (k2 : s.heap.IsTupleIter j2 tb n2) (ka : s.heap.IsList la us) (kb : s.heap.IsTuple tb vs) (hend : us[n1]? = none ∨ vs[n2]? = none)
    (hE : ∀ g e, (∀ b o, b ≠ zz → b ≠ to' → b ≠ j1 → b ≠ j2 → s.heap.get? b = some o → g.get? b = some o) → (∃ o, g.get? e = some o ∧ o.cls = .type "StopIteration") → E (.ref e) { s with heap := g }) :
    wpAny (model prog w) A (Builtin.«zip.__next__» ⟨[.ref zz], []⟩) Q E s := by
  show wpAny _ _ (field (.ref zz) 2 >>= _) _ _ _
  refine wpAny_bind (wpAny_field kz rfl (x := .bool false) rfl ?_)
  show wpAny _ _ (field (.ref zz) 3 >>= _) _ _ _
  refine wpAny_bind (wpAny_field kz rfl (x := .ref ti) rfl ?_)
  refine wpAny_bind (wpAny_seqItems kti rfl ?_)
  show wpAny _ _ (Builtin.SmallTypes.ownedTupleIsFree (.ref zz) >>= _) _ _ _
  refine wpAny_bind ?_
  unfold Builtin.SmallTypes.ownedTupleIsFree
  refine wpAny_bind (wpAny_field kz rfl (x := .none) rfl (wpAny_pure ?_))
  simp only [if_true]
  refine wpAny_bind (wpAny_rule ?_)
  refine wpAny_bind (wpAny_field kz rfl (x := .ref to') rfl ?_)
  refine wpAny_bind (wpAny_setField_rec kz (by simp) fun g1 kz1 q1 => ?_)
  replace kz1 : IsZip g1 zz ti to' .ellipsis := kz1
  refine wpAny_bind ?_
  simp only [List.zipIdx_nil, List.zipIdx_cons, List.forIn_nil, List.forIn_cons]
  refine wpAny_bind (wpAny_bind (wpAny_onRaise ?_))
  show wpAny _ _ (Builtin.SmallTypes.nextOf (.ref j1) >>= _) _ _ _
  cases hu : us[n1]? with
  | none =>
    refine wpAny_bind (wpAny_nextOf_list_end hh (k1.extBut q1.extBut D.i1z) (ka.extBut q1.extBut D.l1z) hu fun g2 e q2 he => ?_)
    obtain ⟨oe, hoe, hce⟩ := he
    have kz2 : IsZip g2 zz ti to' .ellipsis := q2 _ _ D.i1z.symm kz1
    have hez : e ≠ zz := fun x => by subst x; rw [kz2] at hoe; cases hoe; simp at hce
    exact wpAny_setField_rec kz2 (by simp) fun g3 _ q3 => hE g3 e (fun b o c1 _ c3 _ x => q3.extBut _ _ c1 (q2 _ _ c3 (q1.extBut _ _ c1 x))) ⟨oe, q3.extBut _ _ hez hoe, hce⟩
  | some u =>
    have hv : vs[n2]? = none := hend.resolve_left (by rw [hu]; exact fun x => nomatch x)
    refine wpAny_bind (wpAny_nextOf_list_item (k1.extBut q1.extBut D.i1z) (ka.extBut q1.extBut D.l1z) hu fun g2 k12 q2 => wpAny_pure ?_)
    have kto2 : IsPair g2 to' c d := q2.extBut _ _ D.TOi1 (q1.extBut _ _ D.TOz kto)
    refine wpAny_bind (wpAny_seqItems kto2 rfl ?_)
    refine wpAny_bind (wpAny_updateSeq_pair kto2 fun g3 kto3 q3 => ?_)
    refine wpAny_bind (wpAny_letGo (wpAny_pure ?_))
    refine wpAny_bind (wpAny_bind (wpAny_onRaise ?_))
    show wpAny _ _ (Builtin.SmallTypes.nextOf (.ref j2) >>= _) _ _ _
    refine wpAny_bind (nextT_end hh (((k2.extBut q1.extBut D.i2z).extBut q2.extBut D.i12.symm).extBut q3.extBut D.TOi2.symm)
      (((kb.extBut q1.extBut D.l2z).extBut q2.extBut D.l2i1).extBut q3.extBut D.l2TO) hv fun g4 e q4 he => ?_)
    obtain ⟨oe, hoe, hce⟩ := he
    have kz4 : IsZip g4 zz ti to' .ellipsis := q4 _ _ D.i2z.symm (q3.extBut _ _ D.TOz.symm (q2.extBut _ _ D.i1z.symm kz1))
    have hez : e ≠ zz := fun x => by subst x; rw [kz4] at hoe; cases hoe; simp at hce
    exact wpAny_setField_rec kz4 (by simp) fun g5 _ q5 => hE g5 e (fun b o c1 c2 c3 c4 x => q5.extBut _ _ c1 (q4 _ _ c4 (q3.extBut _ _ c2 (q2.extBut _ _ c3 (q1.extBut _ _ c1 x))))) ⟨oe, q5.extBut _ _ hez hoe, hce⟩
theorem pyNextZT_item {zz ti to' j1 j2 la tb : Addr} {n1 n2 : Nat} {us vs : Array Value} {u v c d : Value} {Q : Option Value → Shared → Prop} (D : ZipApart zz ti to' j1 j2 la tb)
    (kz : IsZip s.heap zz ti to' .none) (kti : IsPair s.heap ti (.ref j1) (.ref j2)) (kto : IsPair s.heap to' c d)
    (k1 : s.heap.IsListIter j1 la n1) (k2 : s.heap.IsTupleIter j2 tb n2) (ka : s.heap.IsList la us) (kb : s.heap.IsTuple tb vs) (hu : us[n1]? = some u) (hv : vs[n2]? = some v)
    (hQ : ∀ g, IsZip g zz ti to' (rawInt s.heap.objs.size) → IsPair g to' u v → g.IsListIter j1 la (n1 + 1) → g.IsTupleIter j2 tb (n2 + 1) → IsPair g s.heap.objs.size u v →
      (∀ b o, b ≠ zz → b ≠ to' → b ≠ j1 → b ≠ j2 → s.heap.get? b = some o → g.get? b = some o) → Q (some (.ref s.heap.objs.size)) { s with heap := g }) :
    wpAny (model prog w) A (pyNext (.ref zz)) Q E s := by
  have hT : s.TypeIs (.ref zz) "zip" := ⟨_, kz, rfl⟩
  unfold pyNext
  exact wpAny_bind (wpAny_attempt (wpAny_callSpecial?_slot (name := Str.ofString "__next__") hT F.slot_zip_next
    (wpAny_call_entry F.slot_zip_next hT F.entry_zip_next (zipT_item D kz kti kto k1 k2 ka kb hu hv fun g a1 a2 a3 a4 a5 a7 => wpAny_pure (hQ g a1 a2 a3 a4 a5 a7)) (F.args_zip_next_1 _))))
theorem pyNextZT_end {zz ti to' j1 j2 la tb : Addr} {n1 n2 : Nat} {us vs : Array Value} {c d : Value} {Q : Option Value → Shared → Prop} (hh : A.handled = none) (D : ZipApart zz ti to' j1 j2 la tb)
    (kz : IsZip s.heap zz ti to' .none) (kti : IsPair s.heap ti (.ref j1) (.ref j2)) (kto : IsPair s.heap to' c d)
    (k1 : s.heap.IsListIter j1 la n1) (k2 : s.heap.IsTupleIter j2 tb n2) (ka : s.heap.IsList la us) (kb : s.heap.IsTuple tb vs) (hend : us[n1]? = none ∨ vs[n2]? = none)
    (hQ : ∀ g, (∀ b o, b ≠ zz → b ≠ to' → b ≠ j1 → b ≠ j2 → s.heap.get? b = some o → g.get? b = some o) → Q none { s with heap := g }) : wpAny (model prog w) A (pyNext (.ref zz)) Q E s := by
  have hT : s.TypeIs (.ref zz) "zip" := ⟨_, kz, rfl⟩
  unfold pyNext
  refine wpAny_bind (wpAny_attempt (wpAny_callSpecial?_slot (name := Str.ofString "__next__") hT F.slot_zip_next
    (wpAny_call_entry F.slot_zip_next hT F.entry_zip_next (zipT_end hh D kz kti kto k1 k2 ka kb hend fun g e hk he => ?_) (F.args_zip_next_1 _))))
  obtain ⟨o, ho, hc⟩ := he
  exact wpAny_bind (wpAny_isInstance (T := "StopIteration") (b := true) ⟨o, ho, hc⟩ isSubtype_stop (wpAny_pure (hQ _ hk)))
end
abbrev zT1 (h : Heap) (la : Addr) : Heap := h.push { cls := .type "list_iterator", data := .fields #[.ref la, .int 0 0] }
abbrev zT2 (h : Heap) (la tb : Addr) : Heap := (zT1 h la).push { cls := .type "tuple_iterator", data := .fields #[.ref tb, .int 0 0] }
abbrev zT3 (h : Heap) (la tb : Addr) : Heap := (zT2 h la tb).push { cls := .type "tuple", data := .seq #[.ref h.objs.size, .ref (zT1 h la).objs.size] }
abbrev zT4 (h : Heap) (la tb : Addr) : Heap := (zT3 h la tb).push { cls := .type "tuple", data := .seq #[.none, .none] }
abbrev zT5 (h : Heap) (la tb : Addr) : Heap := (zT4 h la tb).push { cls := .type "zip", data := .fields #[.none, .bool false, .bool false, .ref (zT2 h la tb).objs.size, .ref (zT3 h la tb).objs.size] }
theorem meets_zipT (la tb : Addr) (us vs : Array Value) :
    Meets (Builtin.«zip.__new__» ⟨[.type "zip", .ref la, .ref tb], []⟩) (fun _ R s => s.heap.IsList la us ∧ s.heap.IsTuple tb vs ∧ R (.ok (.ret (.ref (zT4 s.heap la tb).objs.size))) { s with heap := zT5 s.heap la tb }) :=
  .of_wp fun prog w A R s h => by
    obtain ⟨hp, g, d, tk, os⟩ := s
    obtain ⟨ka, kb, h⟩ := h
    have hsub := sub_zip
    have kA : Heap.IsList (Shared.heap ⟨hp, g, d, tk, os⟩) la us := ka
    have kB : Heap.IsTuple (Shared.heap ⟨hp.push { cls := .type "list_iterator", data := .fields #[.ref la, .int 0 0] }, g, d, tk, os⟩) tb vs := Heap.IsTuple.push kb _
    wp_walk using wpAny_pyIter_list kA, wpAny_pyIter_tuple kB
    exact ⟨_, rfl, h⟩
section
variable {prog : Program} {w : World} {A : Around} {E : Value → Shared → Prop} {s : Shared}
theorem call_zipT {la tb : Addr} {us vs : Array Value} {Q : Value → Shared → Prop} (ka : s.heap.IsList la us) (kb : s.heap.IsTuple tb vs)
    (h : ∀ g, IsZip g (s.heap.objs.size + 4) (s.heap.objs.size + 2) (s.heap.objs.size + 3) .none → IsPair g (s.heap.objs.size + 2) (.ref s.heap.objs.size) (.ref (s.heap.objs.size + 1)) →
      IsPair g (s.heap.objs.size + 3) .none .none → g.IsListIter s.heap.objs.size la 0 → g.IsTupleIter (s.heap.objs.size + 1) tb 0 →
      (∀ b o, s.heap.get? b = some o → g.get? b = some o) → Q (.ref (s.heap.objs.size + 4)) { s with heap := g }) :
    wpAny (model prog w) A (call (.type "zip") [.ref la, .ref tb]) Q E s := by
  refine callType_new F.called_zip (by decide) (F.typeCall_zip_2 _ _) (F.newCall_zip_2 _ _) (fun obj => F.args_object_init_3 obj _ _) F.entry_zip_new (meets_zipT la tb us vs) ⟨ka, kb, ?_⟩
  have z1 : (zT1 s.heap la).objs.size = s.heap.objs.size + 1 := Heap.size_push ..
  have z2 : (zT2 s.heap la tb).objs.size = s.heap.objs.size + 2 := by rw [Heap.size_push, z1]
  have z3 : (zT3 s.heap la tb).objs.size = s.heap.objs.size + 3 := by rw [Heap.size_push, z2]
  have z4 : (zT4 s.heap la tb).objs.size = s.heap.objs.size + 4 := by rw [Heap.size_push, z3]
  have p5 : (zT5 s.heap la tb).get? (zT4 s.heap la tb).objs.size = some _ := Heap.get?_push_size _ rfl
  have p4 : (zT5 s.heap la tb).get? (zT3 s.heap la tb).objs.size = some _ := Heap.get?_push_of_some _ (Heap.get?_push_size _ rfl)
  have p3 : (zT5 s.heap la tb).get? (zT2 s.heap la tb).objs.size = some _ := Heap.get?_push_of_some _ (Heap.get?_push_of_some _ (Heap.get?_push_size _ rfl))
  have p2 : (zT5 s.heap la tb).get? (zT1 s.heap la).objs.size = some _ := Heap.get?_push_of_some _ (Heap.get?_push_of_some _ (Heap.get?_push_of_some _ (Heap.get?_push_size _ rfl)))
  have p1 : (zT5 s.heap la tb).get? s.heap.objs.size = some _ := Heap.get?_push_of_some _ (Heap.get?_push_of_some _ (Heap.get?_push_of_some _ (Heap.get?_push_of_some _ (Heap.get?_push_size _ rfl))))
  show _ ∧ _
  rw [z2, z3, z4] at p5
  rw [z1, z2] at p3
  rw [z3] at p4
  rw [z1] at p2
  rw [z4]
  exact ⟨⟨_, p5, rfl⟩, h _ p5 p3 p4 ⟨_, p1, rfl, rfl⟩ ⟨_, p2, rfl, rfl⟩ fun b o x =>
    Heap.get?_push_of_some _ (Heap.get?_push_of_some _ (Heap.get?_push_of_some _ (Heap.get?_push_of_some _ (Heap.get?_push_of_some _ x))))⟩
end
end L2
end
section
set_option Elab.async false
set_option linter.all false
set_option maxRecDepth 100000
set_option maxHeartbeats 1000000
namespace L2
open PySem PySem.Spec PyProof.Rows
theorem KT.drop {H : Hp} {kvs : List (List Key × V)} {xs : List (List Key × Addr × Value)} (r : KT H kvs xs) (k : List Key) : KT H (dropK kvs k) (dropT xs k) := by
  induction r with
  | nil => exact .nil
  | @cons p q ps qs h t ih =>
    unfold dropK dropT at ih ⊢
    rw [List.filter_cons, List.filter_cons]
    obtain ⟨h1, h2, h3⟩ := h
    by_cases e : p.1 = k
    · rw [if_neg (by simp [e]), if_neg (by simp [← h1, e])]
      exact ih
    · rw [if_pos (by simp [e]), if_pos (by simp [← h1, e])]
      exact .cons ⟨h1, h2, h3⟩ ih
section
variable {X : Cx} {pins : List (Addr × Obj)} {σ : St} {H : Hp} {s : Shared} {a b : Addr} {kvs : List (List Key × V)} {k : List Key} {A : Around} {E : Value → Shared → Prop}
/-- d.pop(t, x) -/
theorem d_popT {r : Value} {Q : Value → Shared → Prop} (hu : A.units + 1 < cLine) (I : Inv X pins σ H s) (e : H a = some (.dT kvs)) (eb : H b = some (.tup (k.map kV)))
    (h1 : ∀ v w' s', valV kvs k = some v → Inv X pins σ (upd H a (.dT (dropK kvs k))) s' → RelV v w' → Q w' s') (h0 : ∀ s', valV kvs k = none → Inv X pins σ H s' → Q r s') :
    wpAny (model X.prog X.w) A (call (.builtin "dict.pop") [.ref a, .ref b, r]) Q E s := by
  obtain ⟨z, hd, xs, rel, dd⟩ := dt_of I.hok e
  refine call_meetsIn PySem.F.slot_dict_pop dd.typeIs PySem.F.entry_dict_pop (PySem.F.args_dict_pop_3 _ _ _) (popT (tupleKind (mixKind X.prog X.w)) a b hd r)
    ⟨tupleKind_room_in1 hu, k, xs, key_of I.hok eb, dd, by rw [← Paired.length rel]; exact z, fun no t => ?_, fun p hp h' t dd' hs => ?_⟩
  · refine h0 _ ?_ (I.tok _)
    have q := rel.val k
    rw [no] at q
    cases c : valV kvs k with
    | none => rfl
    | some v =>
      rw [c] at q
      exact q.elim
  · have q := rel.val k
    rw [hp] at q
    cases c : valV kvs k with
    | none =>
      rw [c] at q
      exact q.elim
    | some v =>
      rw [c] at q
      refine h1 v p.2 _ c ?_ q
      obtain ⟨q, es, ep, hq, h2, h3, h4, _, h5⟩ := dd'
      refine d_write I (by rw [e]; exact True.intro) hs ⟨q, hq⟩ ⟨Nat.le_trans (dropK_le kvs k) z, hd, _, (rel.drop k).keeps fun c ys ec => ?_, q, es, ep, hq, h2, h3, h4, h5⟩
      rw [upd_ne (ne_of ec e (fun z => nomatch z))]
      exact ec
end
def tDPopT (td ty tx : TE) : TE := fun σ H Q => td σ H fun x H1 => ∃ a, x = .ref a ∧ IsD H1 a ∧ ty σ H1 fun y H2 => tx σ H2 fun z H3 => ∃ b kvs k, H3 a = some (.dT kvs) ∧ y = .ref b ∧ H3 b = some (.tup (k.map kV)) ∧
  (∀ v, valV kvs k = some v → Q v (upd H3 a (.dT (dropK kvs k)))) ∧ (valV kvs k = none → Q z H3)
theorem pe_dpopT {X : Cx} {o e f : Expr} {apos cpos : Pos} {td ty tx : TE} (hu : X.A.units + 1 < cLine) (ho : PE X o td) (he : PE X e ty) (hf : PE X f tx) (m : M2 X o "pop" apos e f cpos) : PE X (.Call (.Attribute o "pop" apos) [e, f] [] cpos) (tDPopT td ty tx) := by
  intro pins s σ H Q I h
  refine wpAny_Call_method m.base m.few m.line PySem.F.plainAttrs_dict PySem.F.slot_dict_pop PySem.F.type_dict_pop (thn (ho pins s σ H _ I h) fun u s1 ⟨x, H1, I1, rx, a, ex, d, q1⟩ => ?_)
  subst ex
  obtain rfl : u = Value.ref a := rx
  obtain ⟨t1, t2, _⟩ := isD_at I1 d
  refine ⟨t1, t2, ?_⟩
  rw [m.trees]
  refine Calls.callWith_builtin rfl (Calls.evalArgs_plain (Calls.spliced_cons (thn (he pins s1 σ H1 _ I1 q1) fun iv s2 ⟨y, H2, I2, ry, q2⟩ =>
    Calls.spliced_cons (thn (hf pins s2 σ H2 _ I2 q2) fun fv s3 ⟨z, H3, I3, rz, b, kvs, k, ea, ey, eb, q3, q4⟩ => Calls.spliced_nil ?_))))
  subst ey
  obtain rfl : iv = Value.ref b := ry
  exact d_popT hu I3 ea eb (fun v w' s4 l I4 rw' => ⟨v, _, I4, rw', q3 v l⟩) fun s4 l I4 => ⟨z, H3, I4, rz, q4 l⟩
section
variable {X : Cx}
theorem call_lenT : CallR X (.builtin "len") (fun xs H Q => ∃ a kvs, xs = [V.ref a] ∧ Rd H a (.dT kvs) ∧ Q (.int kvs.length) H) := by
  intro pins s σ H xs us Q I r h
  obtain ⟨a, kvs, ex, e, q⟩ := h
  subst ex
  obtain ⟨u, eu, ru⟩ := vals1 r
  subst eu
  obtain rfl : u = Value.ref a := ru
  obtain ⟨z, hd, ys, rel, dd⟩ := dt_rd I.hok e
  have hl : kvs.length = ys.length := Paired.length rel
  refine lenT hd dd (by rw [← hl]; rw [sizeLine_eq] at z; omega) ?_
  exact ⟨.int kvs.length, H, I.tok _, ⟨_, by rw [← hl]⟩, q⟩
/-- the hash of a tuple of ints and texts -/
def hashT (P : Program) (w : World) (k : List Key) : Int := (tupleKind (mixKind P w)).hash k
theorem KT.keys {H : Hp} {kvs : List (List Key × V)} {xs : List (List Key × Addr × Value)} (r : KT H kvs xs) : kvs.map (·.1) = xs.map (·.1) := by
  induction r with
  | nil => rfl
  | cons h t ih => rw [List.map_cons, List.map_cons, ih, h.1]
theorem call_dictT : CallR X (.type "dict") (fun xs H Q => ∃ a kvs, xs = [V.ref a] ∧ Rd H a (.dT kvs) ∧ (kvs.map fun kv => hashT X.prog X.w kv.1).Nodup ∧ ∀ p, H p = none → Q (.ref p) (upd H p (.dT kvs))) := by
  intro pins s σ H xs us Q I r h
  obtain ⟨a, kvs, ex, e, hh, q⟩ := h
  subst ex
  obtain ⟨u, eu, ru⟩ := vals1 r
  subst eu
  obtain rfl : u = Value.ref a := ru
  obtain ⟨z, hd, ys, rel, dd⟩ := dt_rd I.hok e
  have hl : kvs.length = ys.length := Paired.length rel
  have hh' : (ys.map fun x => (tupleKind (mixKind X.prog X.w)).hash x.1).Nodup := by
    have e1 : (ys.map fun x => (tupleKind (mixKind X.prog X.w)).hash x.1) = (ys.map (·.1)).map (hashT X.prog X.w) := by rw [List.map_map]; rfl
    have e2 : (kvs.map fun kv => hashT X.prog X.w kv.1) = (kvs.map (·.1)).map (hashT X.prog X.w) := by rw [List.map_map]; rfl
    rw [e1, ← rel.keys, ← e2]
    exact hh
  refine callType_codes (Q₁ := fun obj s₁ => obj = .ref s.heap.objs.size ∧ s₁ = { s with heap := s.heap.push { cls := .type "dict", data := .dict #[] } }) PySem.F.kt_called_dict (PySem.F.kt_typeCall_dict_1 _) PySem.F.entry_dict_init (kt_code_dict_new _ ⟨rfl, rfl⟩) ?_
  rintro obj s₁ ⟨rfl, rfl⟩
  have hnew : (s.heap.push { cls := .type "dict", data := .dict #[] }).DictOfH (tupleKind (mixKind X.prog X.w)) s.heap.objs.size [] := Heap.DictOfH.new s.heap
  have I1 : Inv X pins σ H { s with heap := s.heap.push { cls := .type "dict", data := .dict #[] } } := I.kept (t' := s.toks) fun _ _ q => Heap.get?_push_of_some _ q
  obtain ⟨_, _, ys', rel', dd'⟩ := dt_rd I1.hok e
  have hl' : kvs.length = ys'.length := Paired.length rel'
  have hh'' : (ys'.map fun x => (tupleKind (mixKind X.prog X.w)).hash x.1).Nodup := by
    have e1 : (ys'.map fun x => (tupleKind (mixKind X.prog X.w)).hash x.1) = (ys'.map (·.1)).map (hashT X.prog X.w) := by rw [List.map_map]; rfl
    have e2 : (kvs.map fun kv => hashT X.prog X.w kv.1) = (kvs.map (·.1)).map (hashT X.prog X.w) := by rw [List.map_map]; rfl
    rw [e1, ← rel'.keys, ← e2]
    exact hh
  have hne : s.heap.objs.size ≠ a := by
    obtain ⟨_, _, _, hg, _⟩ := dd
    exact fun e => absurd (Heap.lt_size hg) (by rw [e]; exact Nat.lt_irrefl _)
  refine ⟨hnew.typeIs, PySem.F.args_dict_init_2 _ _, ?_⟩
  unfold Builtin.«dict.__init__»
  refine wpAny_bind ?_
  unfold Builtin.Dict.selfAndRest
  refine wpAny_bind (wpAny_notOrdered_dict hnew.typeIs ?_)
  show wpAny _ _ (pure (s.heap.objs.size, [Value.ref a])) _ _ _
  refine wpAny_pure ?_
  show wpAny _ _ (Builtin.Dict.updateFrom "dict.__init__" s.heap.objs.size (.ref a) [] .none) _ _ _
  unfold Builtin.Dict.updateFrom
  refine wpAny_bind (wpAny_typeOf dd'.typeIs ?_)
  rw [if_neg (by decide)]
  refine wpAny_bind ?_
  unfold Builtin.Dict.merge
  refine wpAny_bind ?_
  unfold Builtin.Dict.readDirectly
  refine wpAny_bind (wpAny_isInstance dd'.typeIs isSubtype_dict_dict ?_)
  simp only [Bool.not_true, Bool.false_eq_true, if_false]
  refine wpAny_bind (wpAny_specialOf dd'.typeIs PySem.F.slot_dict_iter.lookup (wpAny_pure ?_))
  simp only [beq_self_eq_true, if_true]
  refine wpAny_bind (wpAny_pure ?_)
  refine mergeT hne hd hnew dd' (by rw [← hl']; exact z) hh'' fun h' hd' hs' => ?_
  show wpAny _ _ (Builtin.Dict.addKeywords s.heap.objs.size [] >>= _) _ _ _
  have hf : H s.heap.objs.size = none := I.hok.fresh (Nat.le_refl _)
  refine wpAny_bind (wpAny_pure (wpAny_pure ⟨rfl, .ref s.heap.objs.size, upd H s.heap.objs.size (.dT kvs), ?_, rfl, q _ hf⟩))
  obtain ⟨q, es, ep, hq, h2, h3, h4, _, h5⟩ := hd'
  refine I.laid (a := s.heap.objs.size) (o := .dT kvs) (t' := s.toks) (fun b q hq => ?_) (Nat.le_refl _) ?_
  · exact (hs'.2 b (Nat.ne_of_lt (Heap.lt_size hq))).trans (Heap.get?_push_of_some _ hq)
  · refine ⟨z, beq_eq_false_iff_ne.mpr (Ne.symm (Nat.ne_of_lt I.big)), ys', rel'.keeps fun c ys ec => ?_, q, es, ep, hq, h2, h3, h4, h5⟩
    rw [upd_ne (ne_of_none ec hf)]
    exact ec
end
def tCallV (X : Cx) (i : Nat) (t : TA) : TE := fun σ H Q => ∃ (f : Addr) (k : Nat) (fd : FuncData) (ps : List Str) (sp : Sp), σ[i]? = some (some (.ref f)) ∧ FnOk X.prog X.w X.K X.mg X.base CX0 k f fd ps sp ∧ Room k X.A ∧
  PySem.W.keepIn X.K (.ref f) = true ∧ Binds X.K fd ps [] ∧ t σ H fun vs H1 => sp vs H1 Q E0
theorem pe_callV {X : Cx} {x : Str} {i : Nat} {p pos : Pos} {e : Expr} {es : List Expr} {t : TA} (hv : PE X (.Name x p) (tVar i)) (ha : PA X (e :: es) t)
    (he : starEach (e :: es) X.env = (false, eval e X.env) :: starEach es X.env := by rfl) (hpl : (backTo pos (starEach es X.env)).any (·.1) = false := by rfl) :
    PE X (.Call (.Name x p) (e :: es) [] pos) (tCallV X i t) := by
  intro pins s σ H Q I h
  obtain ⟨f, k, fd, ps, sp, ei, F, hr, hk, hb, h⟩ := h
  refine wpAny_Call_Name_kw (thn (hv pins s σ H (fun v H' => v = .ref f ∧ H' = H) I ⟨_, ei, rfl, rfl⟩) fun u s0 ⟨v, H0, I0, rv, ev, eH⟩ => ?_)
  subst ev eH
  obtain rfl : u = Value.ref f := rv
  refine PySem.W.callWith_K (h₀ := X.base) I0.ok.mod.kin hk (thn (ha pos pins s0 σ _ _ I0 h) fun us s1 ⟨vs, H1, I1, r, q⟩ => ⟨I1.kIn, ?_⟩) he hpl
  exact run_fn (dvs := []) (ds := []) F hr hb .nil pass0 I1 r (by rw [List.append_nil]; exact q)
def MDict (P : Program) (w : World) (K : PySem.W.Frag) (a : Addr) (kvs : List (Key × V)) : Prop := ∀ h : Heap, K.In h → (a == sysModules) = false ∧ ∃ vs, KV kvs vs ∧ h.DictOf (mixKind P w) a vs
def tMD (X : Cx) (td ty : TE) : TE := fun σ H Q => td σ H fun x H1 => ty σ H1 fun y H2 => ∃ a kvs k v, x = .ref a ∧ MDict X.prog X.w X.K a kvs ∧ y = kV k ∧ valV kvs k = some v ∧ Q v H2
theorem pe_mdget {X : Cx} {o i : Expr} {pos : Pos} {td ty : TE} (ho : PE X o td) (hi : PE X i ty) (hs : NoSl i) : PE X (.Subscript o i pos) (tMD X td ty) := by
  intro pins s σ H Q I h
  refine subD_of PySem.F.slot_dict_getitem.lookup hs (thn (ho pins s σ H _ I h) fun u s1 ⟨x, H1, I1, rx, q1⟩ => thn (hi pins s1 σ H1 _ I1 q1) fun iv s2 ⟨y, H2, I2, ry, a, kvs, k, v, ex, md, ey, l, q2⟩ => ?_)
  subst ex ey
  obtain rfl : u = Value.ref a := rx
  obtain ⟨hd, vs, rel, dd⟩ := md s2.heap I2.kIn
  obtain ⟨w', hw, rw'⟩ := RelO.some_of (v := v) (o := valueAt vs k) (by rw [← l]; exact rel.val k)
  exact ⟨dd.typeIs, wpAny_getItem_of (kV_is ry) dd.mapOf hw ⟨v, H2, I2.tok _, rw', q2⟩⟩
def Itzt (K : PySem.W.Frag) (a b : Addr) : It :=
  ⟨fun i H => ∃ (xs ys : List V) (x y : V), SqL K H a xs ∧ SqT K H b ys ∧ xs[i]? = some x ∧ ys[i]? = some y,
    fun i H v H' => ∃ T x y, v = .ref T ∧ H T = none ∧ H' = upd H T (.tup [x, y]) ∧ (∀ xs, SqL K H a xs → xs[i]? = some x) ∧ ∀ ys, SqT K H b ys → ys[i]? = some y,
    fun i H => ∃ xs ys : List V, SqL K H a xs ∧ SqT K H b ys ∧ (xs.length ≤ i ∨ ys.length ≤ i)⟩
theorem turn_zipt {P : Program} {w : World} {K : PySem.W.Frag} {elts : List Expr} {kk : Nat} {tpos : Pos} {a b z TI TO i1 i2 : Addr} (D : ZipApart z TI TO i1 i2 a b) :
    Turn P w K (.Tuple elts kk tpos) (Itzt K a b) [z, TI, TO, i1, i2] z (fun i h => IsZip h z TI TO .none ∧ IsPair h TI (.ref i1) (.ref i2) ∧ (∃ x y, IsPair h TO x y) ∧ h.IsListIter i1 a i ∧ h.IsTupleIter i2 b i) where
  mem := by simp
  obj := fun i h st c hc => by
    obtain ⟨hz, hTI, ⟨x, y, hTO⟩, ⟨o1, e1, _, d1⟩, ⟨o2, e2, _, d2⟩⟩ := st
    have e' : c = z ∨ c = TI ∨ c = TO ∨ c = i1 ∨ c = i2 := by simpa using hc
    rcases e' with q | q | q | q | q
    · rw [q]; exact ⟨_, hz, fun v q => nomatch q⟩
    · rw [q]; exact ⟨_, hTI, fun v q => nomatch q⟩
    · rw [q]; exact ⟨_, hTO, fun v q => nomatch q⟩
    · rw [q]; exact ⟨o1, e1, fun v q => by rw [d1] at q; cases q⟩
    · rw [q]; exact ⟨o2, e2, fun v q => by rw [d2] at q; cases q⟩
  keep := fun i h h' st k => by
    obtain ⟨hz, hTI, ⟨x, y, hTO⟩, h1, h2⟩ := st
    exact ⟨k z (by simp) _ hz, k TI (by simp) _ hTI, ⟨x, y, k TO (by simp) _ hTO⟩, h1.at fun o q => k i1 (by simp) o q, h2.at fun o q => k i2 (by simp) o q⟩
  item := by
    intro X hP hw hK hc i pins s σ H E I hf st hg
    subst hP hw hK
    obtain ⟨hz, hTI, ⟨x0, y0, hTO⟩, h1, h2⟩ := st
    obtain ⟨xs, ys, x, y, hqx, hqy, hx, hy⟩ := hg
    obtain ⟨its, rv, p, _⟩ := I.list hqx
    obtain ⟨its2, rv2, p2, _⟩ := I.tuple hqy
    obtain ⟨u, hu, ru⟩ := rv.get hx
    obtain ⟨u2, hu2, ru2⟩ := rv2.get hy
    have hzl : z < s.heap.objs.size := Heap.lt_size hz
    refine pyNextZT_item D hz hTI hTO h1 h2 p.isList p2 (u := u) (v := u2) (by simpa using hu) (by simpa using hu2) fun h' z' TO' h1' h2' hT hk => ?_
    refine ⟨_, rfl, wpAny_letOwnedTupleGo_zip (s := { s with heap := h' }) z' fun h'' z'' sb => ?_⟩
    have hT2 : h''.get? s.heap.objs.size = some { cls := .type "tuple", data := .seq #[u, u2] } := (sb.2 _ (Nat.ne_of_gt hzl)).trans hT
    have new : ObjOk X.prog X.w (upd H s.heap.objs.size (.tup [x, y])) h'' s.heap.objs.size (.tup [x, y]) :=
      ⟨by show 2 ≤ sizeLine; decide, [u, u2], .cons ru (.cons ru2 .nil), ⟨_, hT2, rfl, _, rfl⟩⟩
    have I1 : Inv X pins σ (upd H s.heap.objs.size (.tup [x, y])) { s with heap := h'' } :=
      I.turnedNew (t' := s.toks) (ch := [z, TI, TO, i1, i2]) (fun c o hb q => (sb.2 c (fun q' => hb (by simp [q']))).trans (hk c o (fun q' => hb (by simp [q'])) (fun q' => hb (by simp [q'])) (fun q' => hb (by simp [q'])) (fun q' => hb (by simp [q'])) q)) hf (Nat.le_refl _) new
    refine ⟨.ref s.heap.objs.size, _, I1, rfl, ⟨_, x, y, rfl, I.hok.fresh (Nat.le_refl _), rfl, fun l hl => by rw [I.list_inj hl hqx]; exact hx, fun l hl => by rw [I.tuple_inj hl hqy]; exact hy⟩, ⟨z'', ?_, ⟨u, u2, ?_⟩, ?_, ?_⟩, fun c hcm => ?_⟩
    · exact (sb.2 _ D.TIz).trans (hk _ _ D.TIz D.TITO D.TIi1 D.TIi2 hTI)
    · exact (sb.2 _ D.TOz).trans TO'
    · exact h1'.at fun o q => (sb.2 _ D.i1z).trans q
    · exact h2'.at fun o q => (sb.2 _ D.i2z).trans q
    · have hlt : c < s.heap.objs.size := by
        have e' : c = z ∨ c = TI ∨ c = TO ∨ c = i1 ∨ c = i2 := by simpa using hcm
        rcases e' with q | q | q | q | q
        · rw [q]; exact hzl
        · rw [q]; exact Heap.lt_size hTI
        · rw [q]; exact Heap.lt_size hTO
        · rw [q]; obtain ⟨_, e1, _⟩ := h1; exact Heap.lt_size e1
        · rw [q]; obtain ⟨_, e2, _⟩ := h2; exact Heap.lt_size e2
      rw [upd_ne (Nat.ne_of_lt hlt)]
      exact (hf c hcm).1
  done := by
    intro X hP hw hK hc i pins s σ H E I hf st hg
    subst hP hw hK
    obtain ⟨hz, hTI, ⟨x0, y0, hTO⟩, h1, h2⟩ := st
    obtain ⟨xs, ys, hqx, hqy, hend⟩ := hg
    obtain ⟨its, rv, p, _⟩ := I.list hqx
    obtain ⟨its2, rv2, p2, _⟩ := I.tuple hqy
    have l1 := rv.length
    have l2 := rv2.length
    have he : its.toArray[i]? = none ∨ its2.toArray[i]? = none := by
      rcases hend with q | q
      · exact .inl (by simp; omega)
      · exact .inr (by simp; omega)
    exact pyNextZT_end (I.ok.hd hc) D hz hTI hTO h1 h2 p.isList p2 he fun h' hk => ⟨rfl, I.turnedL (t' := s.toks) (ch := [z, TI, TO, i1, i2]) (fun c o hb q =>
      hk c o (fun q' => hb (by simp [q'])) (fun q' => hb (by simp [q'])) (fun q' => hb (by simp [q'])) (fun q' => hb (by simp [q'])) q) hf⟩
  self := fun A i s Q E st h => wpAny_pyIter_zip st.1 h
def iZipT (K : PySem.W.Frag) (ta : TA) : TI := fun σ H R => ta σ H fun vs H1 => ∃ a b xs ys, vs = [.ref a, .ref b] ∧ SqL K H1 a xs ∧ SqT K H1 b ys ∧ R (Itzt K a b) H1
theorem pi_zipT {X : Cx} {e e2 : Expr} {ta : TA} {p pos tpos : Pos} {elts : List Expr} {kk : Nat} (hg : Gl X "zip") (hm : X.mg "zip" = none) (ha : PA X [e, e2] ta)
    (hs : starEach [e, e2] X.env = (false, eval e X.env) :: starEach [e2] X.env := by rfl) (hpl : (backTo pos (starEach [e2] X.env)).any (·.1) = false := by rfl) :
    PI X (.Tuple elts kk tpos) (.Call (.Name "zip" p) [e, e2] [] pos) (iZipT X.K ta) := by
  intro pins s σ H R I h
  refine Call_ (ld_blt I hg hm boot_zip5 (PyProof.Rows.callWith_type1 (thn (ha pos pins s σ H _ I h) fun us s1 ⟨vs, H1, I1, r1, q1⟩ => ?_) hs hpl))
  obtain ⟨a, b, xs, ys, ex, hqx, hqy, q⟩ := q1
  subst ex
  cases r1 with
  | cons r rr =>
    cases rr with
    | cons r' rr =>
      cases rr
      cases r
      cases r'
      obtain ⟨its, rv, p1, _⟩ := I1.list hqx
      obtain ⟨its2, rv2, p2, _⟩ := I1.tuple hqy
      have la : a < s1.heap.objs.size := p1.lt
      have lb : b < s1.heap.objs.size := p2.lt
      refine call_zipT p1.isList p2 fun h' hz hTI hTO h1 h2 hk => wpAny_pyIter_zip hz ?_
      have I2 : Inv X pins σ H1 { s1 with heap := h' } := I1.kept (t' := s1.toks) hk
      refine ⟨s1.heap.objs.size + 4, [s1.heap.objs.size + 4, s1.heap.objs.size + 2, s1.heap.objs.size + 3, s1.heap.objs.size, s1.heap.objs.size + 1], _, _, H1, rfl, I2, turn_zipt (PySem.W.ktu_apart s1.heap.objs.size a b la lb), ⟨hz, hTI, ⟨_, _, hTO⟩, h1, h2⟩, fun c hcm => ?_, q⟩
      have e' : c = s1.heap.objs.size + 4 ∨ c = s1.heap.objs.size + 2 ∨ c = s1.heap.objs.size + 3 ∨ c = s1.heap.objs.size ∨ c = s1.heap.objs.size + 1 := by simpa using hcm
      have hle : s1.heap.objs.size ≤ c := by
        rcases e' with z | z | z | z | z
        · rw [z]; exact Nat.le_add_right _ _
        · rw [z]; exact Nat.le_add_right _ _
        · rw [z]; exact Nat.le_add_right _ _
        · rw [z]; exact Nat.le_refl _
        · rw [z]; exact Nat.le_add_right _ _
      exact I1.fpOk hle (I1.hok.fresh hle)
end L2
end
section
set_option Elab.async false
set_option linter.all false
set_option maxRecDepth 100000
set_option maxHeartbeats 1000000
namespace L2
open PySem PySem.Spec PyProof.Rows
def KTup (K : PySem.W.Frag) (a : Addr) (xs : List V) : Prop := ∃ (o : Obj) (its : Array Value) (n : Nat), K.lookup a = some o ∧ o.cls = .type "tuple" ∧ o.data = .seq its n ∧ its.size ≤ sizeLine ∧ Vals xs its.toList
theorem KTup.sq {K : PySem.W.Frag} {a : Addr} {xs : List V} (h : KTup K a xs) (H : Hp) : SqT K H a xs := .inr h
def intKey (e : DictEntry) (c : Int) : Bool := (match e.key with | .int j _ => j == c | _ => false) && e.hash == hashInt c
def dictIn (K : PySem.W.Frag) (a : Addr) : Option (List DictEntry) := match K.lookup a with
  | some o => if o.cls == .type "dict" && o.dict.isNone && o.slots.isEmpty then (match o.data with | .dict es _ => some es.toList | _ => none) else none
  | none => none
def tupIn (K : PySem.W.Frag) (v : Value) : Option (List Value) := match v with
  | .ref b => (match K.lookup b with
    | some o => if o.cls == .type "tuple" then (match o.data with | .seq its _ => if its.size ≤ 1000 then some its.toList else none | _ => none) else none
    | none => none)
  | _ => none
def pairIn (K : PySem.W.Frag) (v : Value) : Option (Int × Int) := match tupIn K v with
  | some [.int lo _, .int hi _] => some (lo, hi)
  | _ => none
def pairsIn (K : PySem.W.Frag) : List Value → List (Int × Int) → Bool
  | [], [] => true
  | v :: vs, p :: ps => pairIn K v == some p && pairsIn K vs ps
  | _, _ => false
def rngIn (K : PySem.W.Frag) (v : Value) (rs : List (Int × Int)) : Bool := match tupIn K v with
  | some vs => pairsIn K vs rs
  | none => false
def rowsIn (K : PySem.W.Frag) : List DictEntry → List (Int × List (Int × Int)) → Bool
  | [], [] => true
  | e :: es, p :: ps => intKey e p.1 && rngIn K e.val p.2 && rowsIn K es ps
  | _, _ => false
def tblOk (K : PySem.W.Frag) (a : Addr) (want : List (Int × List (Int × Int))) : Bool := match dictIn K a with
  | some es => rowsIn K es want
  | none => false
def fnsIn : List DictEntry → List (Int × Addr) → Bool
  | [], [] => true
  | e :: es, p :: ps => intKey e p.1 && (match e.val with | .ref f => f == p.2 | _ => false) && fnsIn es ps
  | _, _ => false
def hndOk (K : PySem.W.Frag) (a : Addr) (want : List (Int × Addr)) : Bool := match dictIn K a with
  | some es => fnsIn es want
  | none => false
theorem dictIn_of {K : PySem.W.Frag} {a : Addr} {es : List DictEntry} (h : dictIn K a = some es) : ∃ o ea ep, K.lookup a = some o ∧ o.ExactDict ∧ o.data = .dict ea ep ∧ ea.toList = es := by
  unfold dictIn at h
  cases e : K.lookup a with
  | none =>
    rw [e] at h
    cases h
  | some o =>
    rw [e] at h
    by_cases c : (o.cls == .type "dict" && o.dict.isNone && o.slots.isEmpty) = true
    · simp only [c, if_true] at h
      rw [Bool.and_eq_true, Bool.and_eq_true] at c
      obtain ⟨⟨c1, c2⟩, c3⟩ := c
      cases hd : o.data with
      | dict ea ep =>
        rw [hd] at h
        refine ⟨o, ea, ep, rfl, ⟨beq_iff_eq.mp c1, Option.isNone_iff_eq_none.mp c2, Array.isEmpty_iff.mp c3⟩, hd, ?_⟩
        exact Option.some.inj h
      | _ =>
        rw [hd] at h
        cases h
    · simp only [c, Bool.false_eq_true, if_false] at h
      cases h
theorem tupIn_of {K : PySem.W.Frag} {v : Value} {vs : List Value} (h : tupIn K v = some vs) : ∃ b, v = .ref b ∧ ∃ (o : Obj) (its : Array Value) (n : Nat), K.lookup b = some o ∧ o.cls = .type "tuple" ∧ o.data = .seq its n ∧ its.size ≤ sizeLine ∧ its.toList = vs := by
  cases v with
  | ref b =>
    refine ⟨b, rfl, ?_⟩
    unfold tupIn at h
    cases e : K.lookup b with
    | none =>
      simp only [e] at h
      cases h
    | some o =>
      simp only [e] at h
      by_cases c : (o.cls == .type "tuple") = true
      · simp only [c, if_true] at h
        cases hd : o.data with
        | seq its n =>
          simp only [hd] at h
          by_cases c2 : its.size ≤ 1000
          · rw [if_pos c2] at h
            exact ⟨o, its, n, rfl, beq_iff_eq.mp c, hd, Nat.le_of_lt (small1000 c2), Option.some.inj h⟩
          · rw [if_neg c2] at h
            cases h
        | _ =>
          simp only [hd] at h
          cases h
      · simp only [c, Bool.false_eq_true, if_false] at h
        cases h
  | _ => cases h
theorem pairIn_of {K : PySem.W.Frag} {v : Value} {p : Int × Int} (h : pairIn K v = some p) : ∃ b, v = .ref b ∧ KTup K b [.int p.1, .int p.2] := by
  unfold pairIn at h
  split at h
  · rename_i lo t1 hi t2 e
    obtain ⟨b, rfl, o, its, n, h1, h2, h3, h4, h5⟩ := tupIn_of e
    have hp : (lo, hi) = p := Option.some.inj h
    subst hp
    exact ⟨b, rfl, o, its, n, h1, h2, h3, h4, by rw [h5]; exact .cons ⟨_, rfl⟩ (.cons ⟨_, rfl⟩ .nil)⟩
  · cases h
theorem pairsIn_of {K : PySem.W.Frag} : ∀ {vs : List Value} {ps : List (Int × Int)}, pairsIn K vs ps = true → ∃ us : List Addr, vs = us.map Value.ref ∧ Paired (fun u (p : Int × Int) => KTup K u [.int p.1, .int p.2]) us ps
  | [], [], _ => ⟨[], rfl, .nil⟩
  | v :: vs, p :: ps, h => by
    have h' : (pairIn K v == some p && pairsIn K vs ps) = true := h
    rw [Bool.and_eq_true] at h'
    obtain ⟨b, rfl, hb⟩ := pairIn_of (beq_iff_eq.mp h'.1)
    obtain ⟨us, rfl, hu⟩ := pairsIn_of h'.2
    exact ⟨b :: us, rfl, .cons hb hu⟩
  | [], _ :: _, h => nomatch h
  | _ :: _, [], h => nomatch h
theorem vals_refs : ∀ us : List Addr, Vals (us.map V.ref) (us.map Value.ref)
  | [] => .nil
  | _ :: us => .cons rfl (vals_refs us)
theorem rngIn_of {K : PySem.W.Frag} {v : Value} {rs : List (Int × Int)} (h : rngIn K v rs = true) : ∃ t us, v = .ref t ∧ KTup K t (us.map V.ref) ∧ Paired (fun u (p : Int × Int) => KTup K u [.int p.1, .int p.2]) us rs := by
  unfold rngIn at h
  split at h
  · rename_i vs e
    obtain ⟨b, rfl, o, its, n, h1, h2, h3, h4, h5⟩ := tupIn_of e
    obtain ⟨us, rfl, hu⟩ := pairsIn_of h
    exact ⟨b, us, rfl, ⟨o, its, n, h1, h2, h3, h4, by rw [h5]; exact vals_refs us⟩, hu⟩
  · cases h
def EntR (e : DictEntry) (p : Int × V) : Prop := intKey e p.1 = true ∧ RelV p.2 e.val
theorem intKey_of {e : DictEntry} {c : Int} (h : intKey e c = true) : (∃ t, e.key = .int c t) ∧ e.hash = hashInt c := by
  unfold intKey at h
  rw [Bool.and_eq_true] at h
  refine ⟨?_, beq_iff_eq.mp h.2⟩
  have h1 := h.1
  split at h1
  · rename_i j t ek
    rw [ek, beq_iff_eq.mp h1]
    exact ⟨t, rfl⟩
  · cases h1
theorem mdict_of {P : Program} {w : World} {K : PySem.W.Frag} {a : Addr} {es : List DictEntry} {kvs : List (Int × V)} (hl : dictIn K a = some es) (hp : Paired EntR es kvs) (hn : (kvs.map (·.1)).Nodup) (hS : (a == sysModules) = false) :
    MDict P w K a (kvs.map fun p => (Sum.inl p.1, p.2)) := by
  intro h hK
  obtain ⟨o, ea, ep, h1, h2, h3, h4⟩ := dictIn_of hl
  have main : ∀ {es : List DictEntry} {kvs : List (Int × V)}, Paired EntR es kvs → ∃ vs : List (Key × Value), KV (kvs.map fun p => ((Sum.inl p.1 : Key), p.2)) vs ∧ PySem.Pairs (mixKind P w) es vs ∧ vs.map (·.1) = kvs.map (fun p => (Sum.inl p.1 : Key)) ∧ ∀ e ∈ es, ∃ k, (mixKind P w).is k e.key = true ∧ e.hash = (mixKind P w).hash k := by
    intro es kvs q
    induction q with
    | nil => exact ⟨[], .nil, .nil, rfl, (fun e he => nomatch he)⟩
    | @cons e p es kvs r t ih =>
      obtain ⟨vs, q1, q2, q3, q4⟩ := ih
      obtain ⟨⟨tk, ek⟩, eh⟩ := intKey_of r.1
      have hk : (mixKind P w).is (Sum.inl p.1) e.key = true := by rw [ek]; exact mixKind_int P w _ _
      refine ⟨(Sum.inl p.1, e.val) :: vs, .cons ⟨rfl, r.2⟩ q1, .cons hk rfl q2, by rw [List.map_cons, List.map_cons, q3], fun e' he' => ?_⟩
      rcases List.mem_cons.mp he' with z | z
      · rw [z]
        exact ⟨_, hk, eh⟩
      · exact q4 e' z
  obtain ⟨vs, q1, q2, q3, q4⟩ := main hp
  refine ⟨hS, vs, q1, o, ea, ep, hK a o h1, h2, h3, fun e he => q4 e (by rw [← h4]; exact Array.mem_toList_iff.mpr he), by rw [h4]; exact q2, ?_⟩
  rw [q3]
  have e1 : (kvs.map fun p => (Sum.inl p.1 : Key)) = (kvs.map (·.1)).map fun z => (Sum.inl z : Key) := by rw [List.map_map]; rfl
  rw [e1]
  unfold List.Nodup at hn ⊢
  exact List.pairwise_map.mpr (hn.imp fun h e => h (Sum.inl.inj e))
theorem valV_inl {c : Int} {v : V} : ∀ {kvs : List (Int × V)}, (kvs.map (·.1)).Nodup → (c, v) ∈ kvs → valV (kvs.map fun p => ((Sum.inl p.1 : Key), p.2)) (Sum.inl c) = some v
  | [], _, h => nomatch h
  | p :: kvs, hn, h => by
    rw [List.map_cons, List.nodup_cons] at hn
    rw [List.map_cons]
    rcases List.mem_cons.mp h with e | h
    · rw [← e]
      exact valV_pos rfl
    · rw [valV_neg (fun e => hn.1 (by have e' : p.1 = c := Sum.inl.inj e; rw [e']; exact List.mem_map.mpr ⟨_, h, rfl⟩))]
      exact valV_inl hn.2 h
theorem tbl_get {P : Program} {w : World} {K : PySem.W.Frag} {a : Addr} {want : List (Int × List (Int × Int))} (h : tblOk K a want = true) (hS : (a == sysModules) = false) (hn : (want.map (·.1)).Nodup) :
    ∃ kvs, MDict P w K a kvs ∧ ∀ c rs, (c, rs) ∈ want → ∃ t us, valV kvs (Sum.inl c) = some (.ref t) ∧ KTup K t (us.map V.ref) ∧ Paired (fun u (p : Int × Int) => KTup K u [.int p.1, .int p.2]) us rs := by
  unfold tblOk at h
  split at h
  · rename_i es e
    have main : ∀ {es : List DictEntry} {want : List (Int × List (Int × Int))}, rowsIn K es want = true → ∃ kvs : List (Int × V), Paired EntR es kvs ∧ kvs.map (·.1) = want.map (·.1) ∧
        ∀ c rs, (c, rs) ∈ want → ∃ t us, (c, V.ref t) ∈ kvs ∧ KTup K t (us.map V.ref) ∧ Paired (fun u (p : Int × Int) => KTup K u [.int p.1, .int p.2]) us rs := by
      intro es
      induction es with
      | nil =>
        intro want h
        cases want with
        | nil => exact ⟨[], .nil, rfl, (fun _ _ h => nomatch h)⟩
        | cons _ _ => cases h
      | cons e es ih =>
        intro want h
        cases want with
        | nil => cases h
        | cons p want =>
          have h' : (intKey e p.1 && rngIn K e.val p.2 && rowsIn K es want) = true := h
          rw [Bool.and_eq_true, Bool.and_eq_true] at h'
          obtain ⟨t, us, ev, ht, hu⟩ := rngIn_of h'.1.2
          obtain ⟨kvs, q1, q2, q3⟩ := ih h'.2
          refine ⟨(p.1, .ref t) :: kvs, .cons ⟨h'.1.1, by rw [ev]; rfl⟩ q1, by rw [List.map_cons, List.map_cons, q2], fun c rs hm => ?_⟩
          rcases List.mem_cons.mp hm with z | z
          · rw [← z] at hu ⊢
            exact ⟨t, us, List.mem_cons_self, ht, hu⟩
          · obtain ⟨t', us', m1, m2, m3⟩ := q3 c rs z
            exact ⟨t', us', List.mem_cons_of_mem _ m1, m2, m3⟩
    obtain ⟨kvs, q1, q2, q3⟩ := main h
    have hn' : (kvs.map (·.1)).Nodup := by rw [q2]; exact hn
    refine ⟨_, mdict_of e q1 hn' hS, fun c rs hm => ?_⟩
    obtain ⟨t, us, m1, m2, m3⟩ := q3 c rs hm
    exact ⟨t, us, valV_inl hn' m1, m2, m3⟩
  · cases h
theorem hnd_get {P : Program} {w : World} {K : PySem.W.Frag} {a : Addr} {want : List (Int × Addr)} (h : hndOk K a want = true) (hS : (a == sysModules) = false) (hn : (want.map (·.1)).Nodup) :
    ∃ kvs, MDict P w K a kvs ∧ ∀ c f, (c, f) ∈ want → valV kvs (Sum.inl c) = some (.ref f) := by
  unfold hndOk at h
  split at h
  · rename_i es e
    have main : ∀ {es : List DictEntry} {want : List (Int × Addr)}, fnsIn es want = true → Paired EntR es (want.map fun p => (p.1, V.ref p.2)) := by
      intro es
      induction es with
      | nil =>
        intro want h
        cases want with
        | nil => exact .nil
        | cons _ _ => cases h
      | cons e es ih =>
        intro want h
        cases want with
        | nil => cases h
        | cons p want =>
          have h' : (intKey e p.1 && (match e.val with | .ref f => f == p.2 | _ => false) && fnsIn es want) = true := h
          rw [Bool.and_eq_true, Bool.and_eq_true] at h'
          refine .cons ⟨h'.1.1, ?_⟩ (ih h'.2)
          have q := h'.1.2
          split at q
          · rename_i f ef
            rw [ef, beq_iff_eq.mp q]
            rfl
          · cases q
    have hn' : ((want.map fun p => (p.1, V.ref p.2)).map (·.1)).Nodup := by rw [List.map_map]; exact hn
    exact ⟨_, mdict_of e (main h) hn' hS, fun c f hm => valV_inl hn' (List.mem_map.mpr ⟨(c, f), hm, rfl⟩)⟩
  · cases h
/-- a tuple of ints of the file's top -/
def intsIn : List Value → List Int → Bool
  | [], [] => true
  | .int i _ :: vs, j :: js => i == j && intsIn vs js
  | _, _ => false
def tupOk (K : PySem.W.Frag) (a : Addr) (want : List Int) : Bool := match tupIn K (.ref a) with
  | some vs => intsIn vs want
  | none => false
theorem intsIn_of : ∀ {vs : List Value} {js : List Int}, intsIn vs js = true → Vals (js.map V.int) vs
  | [], [], _ => .nil
  | .int i t :: vs, j :: js, h => by
    have h' : (i == j && intsIn vs js) = true := h
    rw [Bool.and_eq_true] at h'
    have e : i = j := beq_iff_eq.mp h'.1
    subst e
    exact .cons ⟨t, rfl⟩ (intsIn_of h'.2)
theorem tup_get {K : PySem.W.Frag} {a : Addr} {want : List Int} (h : tupOk K a want = true) : KTup K a (want.map V.int) := by
  unfold tupOk at h
  split at h
  · rename_i vs e
    obtain ⟨b, eb, o, its, n, h1, h2, h3, h4, h5⟩ := tupIn_of e
    cases eb
    exact ⟨o, its, n, h1, h2, h3, h4, by rw [h5]; exact intsIn_of h⟩
  · cases h
end L2
end
section
set_option Elab.async false
set_option linter.all false
set_option maxRecDepth 100000
set_option maxHeartbeats 1000000
namespace L2
open PySem PySem.Spec PyProof.Rows PyProof.Rows.G
theorem src_keys {prog : Program} {w : World} {d : Addr} {o : Obj} {es : Array DictEntry} {ep : Nat} (hd : (d == sysModules) = false) (hc : o.ExactDict) (hdat : o.data = .dict es ep) :
    PySem.W.KdlSrc prog w "dict" d d es.size (fun i v => ∃ en, es[i]? = some en ∧ v = en.key) (fun h => h.get? d = some o) where
  type := fun s h => ⟨o, h, hc.1⟩
  there := fun h e => ⟨Heap.lt_size e, Heap.lt_size e⟩
  keep := fun h h' e k => k d (.inl rfl) o e
  notList := by decide
  notTuple := by decide
  hint := fun A E s Q e hq => PySem.W.kdl_hint_dict ⟨o, e, hc.1⟩ hq
  iter := fun A s hh e => by
    have hne : d ≠ s.heap.objs.size := Nat.ne_of_lt (Heap.lt_size e)
    refine ⟨_, fun i h => h.IsKeyIter s.heap.objs.size d i es.size ep ∧ h.get? d = some o, fun E Q hq => iter_keys hd e hc hdat hq, ?_, ⟨⟨_, Heap.get?_push_size _ rfl, rfl, rfl⟩, Heap.get?_push_of_some _ e⟩⟩
    refine ⟨fun b hb => ?_, fun i h h' st k => ⟨st.1.at fun oi e => k _ (by simp) oi e, k d (by simp) o st.2⟩, fun i s' Q E hi st hQ => ?_, fun s' Q E st hQ => ?_, fun i s' Q E st h => ?_⟩
    · rw [List.mem_singleton.mp hb]
      exact List.mem_cons_self
    · exact next_key_item st.1 st.2 hdat rfl (Array.getElem?_eq_getElem hi) fun h' st' sb => hQ _ h' s'.toks ⟨_, Array.getElem?_eq_getElem hi, rfl⟩ ⟨st', (sb.2 d hne).trans st.2⟩ fun b u hb eb => (sb.2 b fun z => hb (by rw [z]; exact List.mem_cons_self)).trans eb
    · exact next_key_end hh st.1 st.2 hdat rfl (Nat.le_refl _) fun h' eb => hQ h' s'.toks fun b u hb e => eb b u (fun z => hb (by rw [z]; exact List.mem_cons_self)) e
    · refine wpAny_pyIter_slot st.1.typeIs F.slot_dict_keyiterator_iter (wpAny_call_entry F.slot_dict_keyiterator_iter st.1.typeIs F.entry_dict_keyiterator_iter ?_ (F.args_dict_keyiterator_iter_1 _))
      show wpAny _ _ (ret (.ref s.heap.objs.size)) _ _ s'
      exact wpAny_pure ⟨_, rfl, "dict_keyiterator", _, st.1.typeIs, F.slot_dict_keyiterator_next.lookup, h⟩
def sh0 : Nat → Bool := fun _ => false
/-- the order of pairs -/
def le2 (x y : Int × Int) : Prop := x.1 < y.1 ∨ (x.1 = y.1 ∧ x.2 ≤ y.2)
def enc2 (x : (Int × Int) × V) : List Key × V := ([.inl x.1.1, .inl x.1.2], x.2)
def unref : Value → Addr
  | .ref a => a
  | _ => 0
def key2 (H : Hp) (b : Addr) : Int × Int := match H b with
  | some (.tup [.int i, .int j]) => (i, j)
  | _ => (0, 0)
def T2 (H : Hp) (b : Addr) : Prop := H b = some (.tup [.int (key2 H b).1, .int (key2 H b).2])
theorem T2.of {H : Hp} {b : Addr} {x : Int × Int} (h : H b = some (.tup [.int x.1, .int x.2])) : key2 H b = x ∧ T2 H b := by
  have e : key2 H b = x := by unfold key2; rw [h]
  refine ⟨e, ?_⟩
  unfold T2
  rw [e]
  exact h
theorem kle_le2 {x y : Int × Int} (h : (listOrd itemOrd).kle [Sum.inl x.1, Sum.inl x.2] [Sum.inl y.1, Sum.inl y.2]) : le2 x y := by
  have h' : lexLt itemOrd [Sum.inl y.1, Sum.inl y.2] [Sum.inl x.1, Sum.inl x.2] = false := h
  rw [lex_false] at h'
  obtain ⟨h1, h2⟩ := h'
  have h1 : decide (y.1 < x.1) = false := h1
  have h1 := of_decide_eq_false h1
  unfold le2
  rcases h2 with h2 | h2
  · have h2 : decide (x.1 < y.1) = true := h2
    exact .inl (of_decide_eq_true h2)
  · rw [lex_false] at h2
    have h3 : decide (y.2 < x.2) = false := h2.1
    have h3 := of_decide_eq_false h3
    omega
/-- a tracked pair as it stands -/
theorem pair_at {P : Program} {w : World} {H : Hp} {h : Heap} {b : Addr} {x : Int × Int} (ok : HOk P w H h) (e : H b = some (.tup [.int x.1, .int x.2])) :
    ∃ (o : Obj) (t u n : Nat), h.get? b = some o ∧ o.cls = .type "tuple" ∧ o.data = .seq #[.int x.1 t, .int x.2 u] n := by
  obtain ⟨_, its, hv, o, ho, hc, n, hd⟩ := (show ObjOk P w H h b (.tup [.int x.1, .int x.2]) from ok b _ e)
  cases hv with
  | cons r1 r =>
    cases r with
    | cons r2 r =>
      cases r
      obtain ⟨t, rfl⟩ := r1
      obtain ⟨u, rfl⟩ := r2
      exact ⟨o, t, u, n, ho, hc, hd⟩
def rSortedT : List V → Hp → VK → Prop := fun vs H Q => ∃ (d : Addr) (us : List ((Int × Int) × V)), vs = [V.ref d] ∧ H d = some (.dT (us.map enc2)) ∧
  ∀ (ys : List (Int × Int)) (bs : List Addr) (p : Addr), ys.Perm (us.map (·.1)) → ys.Pairwise le2 → Paired (fun y b => H b = some (.tup [.int y.1, .int y.2])) ys bs → H p = none → Q (.ref p) (upd H p (.lst (bs.map V.ref)))
theorem paired_map {α β : Type} {F : α → β → Prop} {f : β → α} : ∀ {l : List β}, (∀ b ∈ l, F (f b) b) → Paired F (l.map f) l
  | [], _ => .nil
  | b :: l, h => .cons (h b List.mem_cons_self) (paired_map fun c hc => h c (List.mem_cons_of_mem _ hc))
theorem paired_mem {α β : Type} {F : α → β → Prop} : ∀ {l : List α} {m : List β}, Paired F l m → ∀ b ∈ m, ∃ x ∈ l, F x b
  | _, _, .nil, b, h => nomatch h
  | _, _, .cons r t, b, h => by
    rcases List.mem_cons.mp h with rfl | h
    · exact ⟨_, List.mem_cons_self, r⟩
    · obtain ⟨x, hx, hf⟩ := paired_mem t b h
      exact ⟨x, List.mem_cons_of_mem _ hx, hf⟩
theorem cr_sortedT {X : Cx} (hcalm : X.calm = true) : CallR X (.builtin "sorted") rSortedT := by
  intro pins s σ H vs us Q I r h
  obtain ⟨d, ks, rfl, hd, q⟩ := h
  rw [Vals.ref1 r]
  obtain ⟨hz, hs, xs, pr, o, es, ep, ho, hx, hdt, he, hnd⟩ := (show ObjOk X.prog X.w H s.heap d (.dT (ks.map enc2)) from I.hok d _ hd)
  clear hnd
  have hsz : es.size = xs.length := size_of_entries he
  have hlk : (ks.map enc2).length = xs.length := Paired.length pr
  rw [List.length_map] at hlk hz
  have hbs : Paired (fun (y : Int × Int) (b : Addr) => H b = some (.tup [.int y.1, .int y.2])) (ks.map (·.1)) (xs.map (·.2.1)) := by
    clear he hsz hdt hlk hz hd q
    induction ks generalizing xs with
    | nil =>
      cases pr
      exact .nil
    | cons k ks ih =>
      cases pr with
      | cons r1 r2 => exact .cons r1.2.1 (ih _ r2)
  have hkey : (xs.map (·.2.1)).map (key2 H) = ks.map (·.1) := by
    clear he hsz hdt hlk hz hd q pr
    generalize xs.map (·.2.1) = bs at hbs
    generalize ks.map (·.1) = ys at hbs
    induction hbs with
    | nil => rfl
    | cons r _ ih => rw [List.map_cons, ih, (T2.of r).1]
  have hT2 : ∀ b ∈ xs.map (·.2.1), T2 H b := fun b hb => by
    obtain ⟨y, _, hy⟩ := paired_mem hbs b hb
    exact (T2.of hy).2
  refine Calls.call_function_entry kind_sorted plain_sorted entry_sorted (args_sorted1 _) ?_
  unfold Builtin.«sorted»
  refine wpAny_bind (m := checkCount "sorted" 1 1 _) (wpAny_pure ?_)
  refine wpAny_bind (PySem.W.kdu_collect (src_keys hs hx hdt) (I.ok.hd hcalm) ho (by rw [hsz, ← hlk]; exact hz) fun h' tk acc hk hacc => ?_)
  have I1 : Inv X pins σ H { s with heap := h', toks := tk } := I.kept hk
  have eacc : acc.toList = (xs.map (·.2.1)).map Value.ref := by
    apply List.ext_getElem?
    intro i
    rw [List.map_map, List.getElem?_map]
    cases e : xs[i]? with
    | none =>
      rw [Option.map_none, List.getElem?_eq_none_iff, Array.length_toList, hacc.1, hsz]
      exact List.getElem?_eq_none_iff.mp e
    | some x =>
      have hi : i < xs.length := (List.getElem?_eq_some_iff.mp e).1
      have hia : i < acc.size := by rw [hacc.1, hsz]; exact hi
      have ea : acc[i]? = some acc[i] := Array.getElem?_eq_getElem hia
      obtain ⟨en, h1, h2⟩ := hacc.2 i _ ea
      rw [Array.getElem?_toList, ea, h2]
      have h3 := entry_at he i
      rw [e, h1] at h3
      have h4 := Option.some.inj h3
      rw [h4]
      rfl
  have hal : acc.toList.length = ks.length := by rw [eacc, List.length_map, List.length_map, hlk]
  refine wpAny_bind (wpAny_newList ?_ (by rw [hal]; exact hz))
  have hoL : (h'.push (seqObj "list" acc.toList.toArray 0)).get? h'.objs.size = some (seqObj "list" acc.toList.toArray 0) := Heap.get?_push_size _ rfl
  have ok2 : HOk X.prog X.w H (h'.push (seqObj "list" acc.toList.toArray 0)) := I1.hok.kept fun b u e => Heap.get?_push_of_some _ e
  show wpAny _ _ _ _ _ { s with heap := h'.push (seqObj "list" acc.toList.toArray 0), toks := tk }
  have tk2 : ∀ b, T2 H b → ∃ f, TupOf (h'.push (seqObj "list" acc.toList.toArray 0)) sh0 (.ref b) f ∧ tupKeyC (h'.push (seqObj "list" acc.toList.toArray 0)) sh0 (.ref b) = some [Sum.inl (key2 H b).1, Sum.inl (key2 H b).2] := fun b hb => by
    obtain ⟨o, t, u, n, e1, e2, e3⟩ := pair_at ok2 hb
    refine ⟨.int (key2 H b).1 t, ⟨b, o, _, n, rfl, e1, e2, e3, rfl, fun _ => ⟨_, _, rfl⟩, fun e => nomatch e⟩, ?_⟩
    unfold tupKeyC
    rw [if_pos (by simp [isTupObj, e1, e2])]
    simp only [tupKey, e1, e3]
    rfl
  obtain ⟨fs, hfs⟩ : ∃ fs, TupsOf (h'.push (seqObj "list" acc.toList.toArray 0)) sh0 acc.toList fs := by
    rw [eacc] at tk2 ⊢
    generalize xs.map (·.2.1) = bs at hT2 tk2 ⊢
    generalize h'.push _ = g at tk2 ⊢
    induction bs with
    | nil => exact ⟨_, .nil⟩
    | cons b bs ih =>
      obtain ⟨f, hf, _⟩ := tk2 b (hT2 b List.mem_cons_self)
      obtain ⟨fs, hfs⟩ := ih (fun c hc => hT2 c (List.mem_cons_of_mem _ hc))
      exact ⟨_, .cons hf hfs⟩
  refine wpAny_bind (wpAny_holding (wpAny_call_entry slot_list_sort ⟨_, hoL, rfl⟩ entry_list_sort (list_sort_tups hoL hfs (fun v hv => ?_) (by rw [hal]; exact hz) fun st' a1 a2 a3 => ⟨_, rfl, ?_⟩) (args_list_sort _)))
  · rw [eacc] at hv
    obtain ⟨b, hb, rfl⟩ := List.mem_map.mp hv
    obtain ⟨f, _, e⟩ := tk2 b (hT2 b hb)
    exact ⟨_, e⟩
  · -- the list that came out
    have p1 : (arrOf st').toList.Perm (acc.toList.zip acc.toList) := by
      have e := Array.perm_iff_toList_perm.mp a1
      rw [pairsOf_toList] at e
      exact e
    have p2 : ((arrOf st').toList.map (·.2)).Perm acc.toList := by
      have e := p1.map (·.2)
      rw [List.map_snd_zip (Nat.le_refl _)] at e
      exact e
    have twin : ∀ x ∈ (arrOf st').toList, x.1 = x.2 := fun x hx => (mem_zip_self (p1.mem_iff.mp hx)).1
    have hin : ∀ x ∈ (arrOf st').toList, x.2 ∈ acc.toList := fun x hx => p2.mem_iff.mp (List.mem_map.mpr ⟨x, hx, rfl⟩)
    have bs_eq : (((arrOf st').toList.map (·.2)).map unref).map Value.ref = (arrOf st').toList.map (·.2) := by
      rw [List.map_map]
      conv => rhs; rw [← List.map_id ((arrOf st').toList.map (·.2))]
      apply List.map_congr_left
      intro v hv
      obtain ⟨x, hx, rfl⟩ := List.mem_map.mp hv
      have := hin x hx
      rw [eacc] at this
      obtain ⟨b, _, e⟩ := List.mem_map.mp this
      rw [← e]
      rfl
    have pb : (((arrOf st').toList.map (·.2)).map unref).Perm (xs.map (·.2.1)) := by
      have e := p2.map unref
      rw [eacc, List.map_map (f := Value.ref)] at e
      have e2 : (xs.map (·.2.1)).map (unref ∘ Value.ref) = xs.map (·.2.1) := by
        conv => rhs; rw [← List.map_id (xs.map (·.2.1))]
        rfl
      rw [e2] at e
      exact e
    obtain ⟨ep', he'⟩ := sortedHeap_at (vs := acc.toList) (out := (arrOf st').map (·.2)) hoL
    have ht2 : ∀ b ∈ ((arrOf st').toList.map (·.2)).map unref, T2 H b := fun b hb => hT2 b (pb.mem_iff.mp hb)
    refine wpAny_pure ⟨_, rfl, .ref h'.objs.size, upd H h'.objs.size (.lst ((((arrOf st').toList.map (·.2)).map unref).map V.ref)), ?_, rfl, q ((((arrOf st').toList.map (·.2)).map unref).map (key2 H)) _ _ ?_ ?_ (paired_map (F := fun (y : Int × Int) (b : Addr) => H b = some (.tup [.int y.1, .int y.2])) (f := key2 H) fun b hb => ht2 b hb) (I1.hok.fresh (Nat.le_refl _))⟩
    · refine I1.laid (t' := tk) (fun b u e => ?_) (Nat.le_refl _) ⟨?_, ((arrOf st').map (·.2)).toList, ep', ?_, ?_⟩
      · rw [sortedHeap_old (Nat.ne_of_lt (Heap.lt_size e)) (by rw [size_push']; exact Nat.lt_succ_of_lt (Heap.lt_size e))]
        exact Heap.get?_push_of_some _ e
      · rw [List.length_map, pb.length_eq, List.length_map, ← hlk]
        exact hz
      · rw [Array.toList_map, ← bs_eq]
        generalize ((arrOf st').toList.map (·.2)).map unref = bs
        induction bs with
        | nil => exact .nil
        | cons b bs ih => exact .cons rfl ih
      · exact he'
    · have e := pb.map (key2 H)
      rw [hkey] at e
      exact e
    · rw [List.map_map, List.map_map, List.pairwise_map, List.pairwise_iff_getElem]
      intro i j hi hj hij
      have hs1 := a2 i j (Nat.le_of_lt hij) (by rw [← a1.size_eq]; exact hj)
      have kk : ∀ (i : Nat) (hi : i < (arrOf st').toList.length), KK (tupKindC (h'.push (seqObj "list" acc.toList.toArray 0)) sh0) (arrOf st') i = [Sum.inl ((key2 H ∘ unref ∘ (·.2)) ((arrOf st').toList[i])).1, Sum.inl ((key2 H ∘ unref ∘ (·.2)) ((arrOf st').toList[i])).2] := fun i hi => by
        have hm : (arrOf st').toList[i] ∈ (arrOf st').toList := List.getElem_mem hi
        have ht := ht2 (unref ((arrOf st').toList[i]).2) (List.mem_map.mpr ⟨_, List.mem_map.mpr ⟨_, hm, rfl⟩, rfl⟩)
        obtain ⟨f, _, e⟩ := tk2 _ ht
        unfold KK
        have ea : (arrOf st')[i]? = some ((arrOf st').toList[i]) := by rw [← Array.getElem?_toList]; exact List.getElem?_eq_getElem hi
        rw [ea]
        show ((tupKeyC _ sh0 ((arrOf st').toList[i]).1).getD [] : List (Int ⊕ List Nat)) = _
        rw [twin _ hm]
        have er : Value.ref (unref ((arrOf st').toList[i]).2) = ((arrOf st').toList[i]).2 := by
          have := hin _ hm
          rw [eacc] at this
          obtain ⟨b, _, e⟩ := List.mem_map.mp this
          rw [← e]
          rfl
        rw [← er, e]
        rfl
      rw [kk i hi, kk j hj] at hs1
      exact kle_le2 hs1
end L2
end
section
set_option Elab.async false
set_option linter.all false
set_option maxRecDepth 100000
set_option maxHeartbeats 1000000
namespace G
open PySem PySem.Spec PyProof.Rows L2
open GM (WF MsgOk Srt)
abbrev Row := Vbemar.Row
abbrev Sheet := Vbemar.Sheet
abbrev Msg := Vbemar.Msg
abbrev Party := Vbemar.Party
abbrev Held := Vbemar.Held
abbrev Net := Vbemar.Net
inductive Tag where
  | sess | mkt | net | msgs | pty (i : Nat) | acc (i : Nat) | drf (i : Nat) | fix
  deriving DecidableEq
abbrev Tg := Addr → Option Tag
def mark (t : Tg) (a : Addr) (g : Tag) : Tg := fun b => if b = a then some g else t b
theorem mark_same {t : Tg} {a : Addr} {g : Tag} : mark t a g a = some g := by unfold mark; rw [if_pos rfl]
theorem mark_ne {t : Tg} {a b : Addr} {g : Tag} (h : b ≠ a) : mark t a g b = t b := by unfold mark; rw [if_neg h]
theorem tag_ne {t : Tg} {a b : Addr} {x y : Option Tag} (ha : t a = x) (hb : t b = y) (h : x ≠ y) : a ≠ b := fun e => h (by rw [← ha, ← hb, e])
/-- what leaves all but marked, changing things as they were -/
structure Fm (t t' : Tg) (H H' : Hp) : Prop where
  old : ∀ b o, H b = some o → (t b = none ∨ t b = some .fix) → H' b = some o
  tag : ∀ b, H b ≠ none → t' b = t b
  live : ∀ b, H b ≠ none → H' b ≠ none
theorem Fm.refl (t : Tg) (H : Hp) : Fm t t H H := ⟨fun _ _ h _ => h, fun _ _ => rfl, fun _ h => h⟩
theorem Fm.trans {t t1 t2 : Tg} {H H1 H2 : Hp} (a : Fm t t1 H H1) (b : Fm t1 t2 H1 H2) : Fm t t2 H H2 where
  old := fun c o h k => b.old c o (a.old c o h k) (by rw [a.tag c (by rw [h]; exact fun e => nomatch e)]; exact k)
  tag := fun c h => (b.tag c (a.live c h)).trans (a.tag c h)
  live := fun c h => b.live c (a.live c h)
theorem some_ne {α : Type} {x : α} : (some x) ≠ none := fun e => nomatch e
theorem live_of {H : Hp} {b : Addr} {o : HO} (h : H b = some o) : H b ≠ none := by rw [h]; exact some_ne
/-- all that was tracked stands -/
theorem Fm.same {t t' : Tg} {H H' : Hp} (s : Same H H') (k : ∀ b, H b ≠ none → t' b = t b) : Fm t t' H H' where
  old := fun b o h _ => s b o h
  tag := k
  live := fun b h => by
    cases e : H b with
    | none => exact absurd e h
    | some o => rw [s b o e]; exact some_ne
/-- one marked thing is written -/
theorem Fm.upd {t : Tg} {H : Hp} {a : Addr} {o : HO} (h : t a ≠ none) (h2 : t a ≠ some .fix) : Fm t t H (upd H a o) where
  old := fun b u e k => by
    rw [upd_ne]
    · exact e
    · intro q
      subst q
      exact k.elim h h2
  tag := fun _ _ => rfl
  live := fun b hb => by
    by_cases q : b = a
    · subst q
      rw [upd_same]
      exact some_ne
    · rw [upd_ne q]
      exact hb
/-- unchanged but where the mark is x -/
def Off (x : Option Tag) (t : Tg) (H H' : Hp) : Prop := ∀ b o, H b = some o → t b ≠ x → H' b = some o
theorem Off.upd {x : Option Tag} {t : Tg} {H : Hp} {a : Addr} {o : HO} (h : t a = x) : Off x t H (upd H a o) := fun b u e k => by
  rw [upd_ne]
  · exact e
  · intro q
    subst q
    exact k h
def ek (r q : Nat) : List Key := [.inl ((r : Int) + 1), .inl ((q : Int) + 1)]
def enc (r : Row) : List Key × V := (ek r.to r.q, .int r.amount)
theorem ek_inj {r q r' q' : Nat} (h : ek r q = ek r' q') : r = r' ∧ q = q' := by
  unfold ek at h
  injection h with h1 h2
  injection h2 with h2 _
  injection h1 with h1
  injection h2 with h2
  omega
theorem ek_key {a b : Row} : ek a.to a.q = ek b.to b.q ↔ GM.key a = GM.key b := by
  constructor
  · intro h
    obtain ⟨h1, h2⟩ := ek_inj h
    exact Prod.ext h1 h2
  · intro h
    have h1 : a.to = b.to := congrArg Prod.fst h
    have h2 : a.q = b.q := congrArg Prod.snd h
    rw [h1, h2]
theorem valV_enc (us : List Row) (r q : Nat) : valV (us.map enc) (ek r q) = (us.find? fun x => x.to == r && x.q == q).map fun x => V.int x.amount := by
  induction us with
  | nil => rfl
  | cons x us ih =>
    rw [List.map_cons, List.find?_cons]
    by_cases c : ek x.to x.q = ek r q
    · obtain ⟨h1, h2⟩ := ek_inj c
      rw [valV_pos (show (enc x).1 = ek r q from c)]
      have e : (x.to == r && x.q == q) = true := by simp [h1, h2]
      rw [e]
      rfl
    · rw [valV_neg (show ¬ (enc x).1 = ek r q from c), ih]
      have e : (x.to == r && x.q == q) = false := by
        cases e : (x.to == r && x.q == q) with
        | false => rfl
        | true =>
          simp only [Bool.and_eq_true, beq_iff_eq] at e
          exact absurd (by rw [e.1, e.2]) c
      rw [e]
theorem valV_getD (us : List Row) (r q : Nat) : ((valV (us.map enc) (ek r q)).getD (.int 0)) = .int (Vbemar.amount us r q) := by
  rw [valV_enc]
  unfold Vbemar.amount
  cases us.find? fun x => x.to == r && x.q == q <;> rfl
theorem putK_enc (us : List Row) (r : Row) : putK (us.map enc) (ek r.to r.q) (.int r.amount) = (GM.putU us r).map enc := by
  unfold putK GM.putU
  have e : ((us.map enc).any fun kv => decide (kv.1 = ek r.to r.q)) = us.any (fun x => decide (GM.key x = GM.key r)) := by
    rw [List.any_map]
    congr 1
    funext x
    show decide (ek x.to x.q = ek r.to r.q) = _
    simp only [ek_key]
  rw [e]
  by_cases c : us.any (fun x => decide (GM.key x = GM.key r)) = true
  · rw [if_pos c, if_pos c, List.map_map, List.map_map]
    apply List.map_congr_left
    intro x _
    show (if ek x.to x.q = ek r.to r.q then (ek x.to x.q, V.int r.amount) else enc x) = enc (if GM.key x = GM.key r then r else x)
    by_cases d : GM.key x = GM.key r
    · rw [if_pos (ek_key.mpr d), if_pos d, ek_key.mpr d]
      rfl
    · rw [if_neg (fun h => d (ek_key.mp h)), if_neg d]
  · rw [if_neg c, if_neg c, List.map_append]
    rfl
theorem dropK_enc (us : List Row) (r : Row) : dropK (us.map enc) (ek r.to r.q) = (GM.dropU us (GM.key r)).map enc := by
  unfold dropK GM.dropU
  rw [List.filter_map]
  congr 1
  apply List.filter_congr
  intro x _
  show decide (ek x.to x.q ≠ ek r.to r.q) = decide (GM.key x ≠ GM.key r)
  simp only [ne_eq, ek_key]
theorem valV_none {us : List Row} {r : Row} (h : valV (us.map enc) (ek r.to r.q) = none) : GM.dropU us (GM.key r) = us := by
  rw [valV_enc, Option.map_eq_none_iff] at h
  apply GM.dropU_none
  rw [List.any_eq_false]
  intro x hx
  have := List.find?_eq_none.mp h x hx
  simp only [Bool.and_eq_true, beq_iff_eq, Bool.not_eq_true] at this
  simp only [decide_eq_true_eq]
  intro e
  have e1 : x.to = r.to := congrArg Prod.fst e
  have e2 : x.q = r.q := congrArg Prod.snd e
  exact this ⟨e1, e2⟩
/-- a sheet that stays as it is stands at a -/
def ShAt (H : Hp) (t : Tg) (a : Addr) (l : Sheet) : Prop := ∃ us : List Row, H a = some (.dT (us.map enc)) ∧ t a = some .fix ∧ us.Perm l
/-- party i's draft stands at a -/
def DrAt (H : Hp) (t : Tg) (i : Nat) (a : Addr) (l : Sheet) : Prop := ∃ us : List Row, H a = some (.dT (us.map enc)) ∧ t a = some (.drf i) ∧ us.Perm l
theorem ShAt.off {x : Option Tag} {H H' : Hp} {t : Tg} {a : Addr} {l : Sheet} (h : ShAt H t a l) (o : Off x t H H') (hx : x ≠ some .fix := by (intro q; cases q)) : ShAt H' t a l := by
  obtain ⟨us, e, g, p⟩ := h
  exact ⟨us, o a _ e (by rw [g]; exact Ne.symm hx), g, p⟩
theorem DrAt.off {x : Option Tag} {H H' : Hp} {t : Tg} {i : Nat} {a : Addr} {l : Sheet} (h : DrAt H t i a l) (o : Off x t H H') (hx : x ≠ some (.drf i)) : DrAt H' t i a l := by
  obtain ⟨us, e, g, p⟩ := h
  exact ⟨us, o a _ e (by rw [g]; exact Ne.symm hx), g, p⟩
/-- more stands, what was marked keeps its mark -/
structure Grow (t t' : Tg) (H H' : Hp) : Prop where
  same : Same H H'
  tag : ∀ b, H b ≠ none → t' b = t b
theorem Grow.fm {t t' : Tg} {H H' : Hp} (g : Grow t t' H H') : Fm t t' H H' := Fm.same g.same g.tag
theorem ShAt.grow {H H' : Hp} {t t' : Tg} {a : Addr} {l : Sheet} (h : ShAt H t a l) (g : Grow t t' H H') : ShAt H' t' a l := by
  obtain ⟨us, e, k, p⟩ := h
  exact ⟨us, g.same a _ e, by rw [g.tag a (live_of e)]; exact k, p⟩
theorem DrAt.grow {H H' : Hp} {t t' : Tg} {i : Nat} {a : Addr} {l : Sheet} (h : DrAt H t i a l) (g : Grow t t' H H') : DrAt H' t' i a l := by
  obtain ⟨us, e, k, p⟩ := h
  exact ⟨us, g.same a _ e, by rw [g.tag a (live_of e)]; exact k, p⟩
structure Adr where
  cMsg : Addr
  cNet : Addr
  cPty : Addr
  cAcc : Addr
  cMkt : Addr
  cSes : Addr
def mf (k p v : Int) (s : V) : List (Str × V) := [("kind", .int k), ("party", .int p), ("version", .int v), ("sheet", s)]
def nf (l : Addr) : List (Str × V) := [("messages", .ref l)]
def pf (d s : Addr) (v a : Int) (w t : Bool) (b : V) : List (Str × V) := [("draft", .ref d), ("sent", .ref s), ("version", .int v), ("acked", .int a), ("waits", .bl w), ("too_late", .bl t), ("belief", b)]
def af (v : Int) (s : Addr) (e : Bool) : List (Str × V) := [("version", .int v), ("sheet", .ref s), ("seen", .bl e)]
def kf (n q g t : Int) (c : Bool) (p a k : Addr) : List (Str × V) :=
  [("party_count", .int n), ("quarter_count", .int q), ("gate", .int g), ("time", .int t), ("closed", .bl c), ("parties", .ref p), ("accounts", .ref a), ("net", .ref k)]
def zf (v : V) : List (Str × V) := [("market", v)]
def kindOf : Msg → Int
  | .doc _ _ _ => 1
  | .ack _ _ => 2
  | .late _ _ => 3
  | .conf _ _ => 4
  | .seen _ => 5
def whoOf : Msg → Nat
  | .doc p _ _ => p
  | .ack p _ => p
  | .late p _ => p
  | .conf p _ => p
  | .seen p => p
def verOf : Msg → Nat
  | .doc _ v _ => v
  | .ack _ v => v
  | .late _ v => v
  | .conf _ _ => 0
  | .seen _ => 0
def shOf : Msg → Sheet
  | .doc _ _ l => l
  | .conf _ l => l
  | _ => []
def MsAt (A : Adr) (H : Hp) (t : Tg) (a : Addr) (m : Msg) : Prop :=
  ∃ dx s, H a = some (.ins A.cMsg dx (mf (kindOf m) ((whoOf m : Int) + 1) (verOf m) (.ref s))) ∧ t a = some .fix ∧ ShAt H t s (shOf m)
def BelAt (H : Hp) (t : Tg) (b : V) : Option Sheet → Prop
  | none => b = .non
  | some l => ∃ p, b = .ref p ∧ ShAt H t p l
def PtAt (A : Adr) (H : Hp) (t : Tg) (i : Nat) (a : Addr) (x : Party) : Prop :=
  ∃ dx d s b, H a = some (.ins A.cPty dx (pf d s x.version x.acked x.waits x.tooLate b)) ∧ t a = some (.pty i) ∧ DrAt H t i d x.draft ∧ ShAt H t s x.sent ∧ BelAt H t b x.final
def AcAt (A : Adr) (H : Hp) (t : Tg) (i : Nat) (a : Addr) (x : Held) : Prop :=
  ∃ dx s, H a = some (.ins A.cAcc dx (af x.version s x.seen)) ∧ t a = some (.acc i) ∧ ShAt H t s x.sheet
structure Lyt where
  pl : Addr
  al : Addr
  nn : Addr
  ml : Addr
  ps : List Addr
  as : List Addr
  ms : List Addr
structure Rep (A : Adr) (H : Hp) (t : Tg) (m : Addr) (L : Lyt) (N : Net) : Prop where
  mkt : ∃ dx, H m = some (.ins A.cMkt dx (kf N.parties.length N.quarters N.gate N.now N.closed L.pl L.al L.nn))
  tm : t m = some .mkt
  pl : H L.pl = some (.lst (L.ps.map V.ref))
  tpl : t L.pl = some .fix
  al : H L.al = some (.lst (L.as.map V.ref))
  tal : t L.al = some .fix
  nn : ∃ dx, H L.nn = some (.ins A.cNet dx (nf L.ml))
  tnn : t L.nn = some .net
  ml : H L.ml = some (.lst (L.ms.map V.ref))
  tml : t L.ml = some .msgs
  lp : L.ps.length = N.parties.length
  la : L.as.length = N.held.length
  lm : L.ms.length = N.flying.length
  pt : ∀ (i : Nat) (a : Addr) (x : Party), L.ps[i]? = some a → N.parties[i]? = some x → PtAt A H t i a x
  ac : ∀ (i : Nat) (a : Addr) (x : Held), L.as[i]? = some a → N.held[i]? = some x → AcAt A H t i a x
  ms : ∀ (i : Nat) (a : Addr) (x : Msg), L.ms[i]? = some a → N.flying[i]? = some x → MsAt A H t a x
  tl : ∀ b, H b = none → t b = none
  wf : WF N
section
variable {A : Adr} {H H' : Hp} {t t' : Tg} {m : Addr} {L : Lyt} {N : Net} {x : Option Tag} {a : Addr} {i : Nat}
theorem MsAt.off {y : Msg} (h : MsAt A H t a y) (o : Off x t H H') (hx : x ≠ some .fix := by (intro q; cases q)) : MsAt A H' t a y := by
  obtain ⟨dx, s, e, g, k⟩ := h
  exact ⟨dx, s, o a _ e (by rw [g]; exact Ne.symm hx), g, k.off o hx⟩
theorem BelAt.off {b : V} : ∀ {y : Option Sheet}, BelAt H t b y → Off x t H H' → x ≠ some .fix → BelAt H' t b y
  | none, h, _, _ => h
  | some l, ⟨p, e, k⟩, o, hx => ⟨p, e, k.off o hx⟩
theorem PtAt.off {y : Party} (h : PtAt A H t i a y) (o : Off x t H H') (h1 : x ≠ some .fix) (h2 : x ≠ some (.pty i)) (h3 : x ≠ some (.drf i)) : PtAt A H' t i a y := by
  obtain ⟨dx, d, s, b, e, g, k1, k2, k3⟩ := h
  exact ⟨dx, d, s, b, o a _ e (by rw [g]; exact Ne.symm h2), g, k1.off o h3, k2.off o h1, k3.off o h1⟩
theorem AcAt.off {y : Held} (h : AcAt A H t i a y) (o : Off x t H H') (h1 : x ≠ some .fix) (h2 : x ≠ some (.acc i)) : AcAt A H' t i a y := by
  obtain ⟨dx, s, e, g, k⟩ := h
  exact ⟨dx, s, o a _ e (by rw [g]; exact Ne.symm h2), g, k.off o h1⟩
theorem MsAt.grow {y : Msg} (h : MsAt A H t a y) (g : Grow t t' H H') : MsAt A H' t' a y := by
  obtain ⟨dx, s, e, k, q⟩ := h
  exact ⟨dx, s, g.same a _ e, by rw [g.tag a (live_of e)]; exact k, q.grow g⟩
theorem BelAt.grow {b : V} : ∀ {y : Option Sheet}, BelAt H t b y → Grow t t' H H' → BelAt H' t' b y
  | none, h, _ => h
  | some l, ⟨p, e, k⟩, g => ⟨p, e, k.grow g⟩
theorem PtAt.grow {y : Party} (h : PtAt A H t i a y) (g : Grow t t' H H') : PtAt A H' t' i a y := by
  obtain ⟨dx, d, s, b, e, k, k1, k2, k3⟩ := h
  exact ⟨dx, d, s, b, g.same a _ e, by rw [g.tag a (live_of e)]; exact k, k1.grow g, k2.grow g, k3.grow g⟩
theorem AcAt.grow {y : Held} (h : AcAt A H t i a y) (g : Grow t t' H H') : AcAt A H' t' i a y := by
  obtain ⟨dx, s, e, k, q⟩ := h
  exact ⟨dx, s, g.same a _ e, by rw [g.tag a (live_of e)]; exact k, q.grow g⟩
/-- new things beside it -/
theorem Rep.grow (r : Rep A H t m L N) (g : Grow t t' H H') (tl : ∀ b, H' b = none → t' b = none) : Rep A H' t' m L N where
  mkt := let ⟨dx, e⟩ := r.mkt; ⟨dx, g.same _ _ e⟩
  tm := by obtain ⟨dx, e⟩ := r.mkt; rw [g.tag m (live_of e)]; exact r.tm
  pl := g.same _ _ r.pl
  tpl := by rw [g.tag _ (live_of r.pl)]; exact r.tpl
  al := g.same _ _ r.al
  tal := by rw [g.tag _ (live_of r.al)]; exact r.tal
  nn := let ⟨dx, e⟩ := r.nn; ⟨dx, g.same _ _ e⟩
  tnn := by obtain ⟨dx, e⟩ := r.nn; rw [g.tag _ (live_of e)]; exact r.tnn
  ml := g.same _ _ r.ml
  tml := by rw [g.tag _ (live_of r.ml)]; exact r.tml
  lp := r.lp
  la := r.la
  lm := r.lm
  pt := fun i a x h1 h2 => (r.pt i a x h1 h2).grow g
  ac := fun i a x h1 h2 => (r.ac i a x h1 h2).grow g
  ms := fun i a x h1 h2 => (r.ms i a x h1 h2).grow g
  tl := tl
  wf := r.wf
theorem tl_upd {a : Addr} {o : HO} (h : ∀ b, H b = none → t b = none) : ∀ b, upd H a o b = none → t b = none := fun b e => by
  by_cases q : b = a
  · subst q
    rw [upd_same] at e
    cases e
  · rw [upd_ne q] at e
    exact h b e
/-- another thing is written -/
theorem Rep.other (r : Rep A H t m L N) {o : HO} (ha : t a = none) : Rep A (upd H a o) t m L N := by
  have f : Off none t H (upd H a o) := Off.upd ha
  have n1 : ∀ {g : Tag}, (none : Option Tag) ≠ some g := fun e => nomatch e
  have n2 : ∀ {g : Tag}, (some g : Option Tag) ≠ none := fun e => nomatch e
  exact ⟨let ⟨dx, e⟩ := r.mkt; ⟨dx, f _ _ e (by rw [r.tm]; exact n2)⟩, r.tm, f _ _ r.pl (by rw [r.tpl]; exact n2), r.tpl, f _ _ r.al (by rw [r.tal]; exact n2), r.tal, let ⟨dx, e⟩ := r.nn; ⟨dx, f _ _ e (by rw [r.tnn]; exact n2)⟩, r.tnn,
    f _ _ r.ml (by rw [r.tml]; exact n2), r.tml, r.lp, r.la, r.lm, fun i a x h1 h2 => (r.pt i a x h1 h2).off f n1 n1 n1, fun i a x h1 h2 => (r.ac i a x h1 h2).off f n1 n1, fun i a x h1 h2 => (r.ms i a x h1 h2).off f n1, tl_upd r.tl, r.wf⟩
/-- the clock -/
theorem Rep.clock (r : Rep A H t m L N) {dx : Addr} {T : Nat} {c : Bool} : Rep A (upd H m (.ins A.cMkt dx (kf N.parties.length N.quarters N.gate T c L.pl L.al L.nn))) t m L { N with now := T, closed := c } := by
  have f : Off (some .mkt) t H (upd H m (.ins A.cMkt dx (kf N.parties.length N.quarters N.gate T c L.pl L.al L.nn))) := Off.upd r.tm
  have n1 : ∀ {g : Tag}, g ≠ .mkt → (some Tag.mkt : Option Tag) ≠ some g := fun h e => h (Option.some.inj e).symm
  have n2 : ∀ {g : Tag}, g ≠ .mkt → (some g : Option Tag) ≠ some .mkt := fun h e => h (Option.some.inj e)
  exact ⟨⟨dx, upd_same⟩, r.tm, f _ _ r.pl (by rw [r.tpl]; exact n2 (by decide)), r.tpl, f _ _ r.al (by rw [r.tal]; exact n2 (by decide)), r.tal, let ⟨dx, e⟩ := r.nn; ⟨dx, f _ _ e (by rw [r.tnn]; exact n2 (by decide))⟩, r.tnn,
    f _ _ r.ml (by rw [r.tml]; exact n2 (by decide)), r.tml, r.lp, r.la, r.lm, fun i a x h1 h2 => (r.pt i a x h1 h2).off f (n1 (by decide)) (n1 (fun e => nomatch e)) (n1 (fun e => nomatch e)),
    fun i a x h1 h2 => (r.ac i a x h1 h2).off f (n1 (by decide)) (n1 (fun e => nomatch e)), fun i a x h1 h2 => (r.ms i a x h1 h2).off f (n1 (by decide)), tl_upd r.tl, r.wf.clock T c⟩
/-- the messages -/
theorem Rep.fly (r : Rep A H t m L N) {ms : List Addr} {fl : List Msg} (hl : ms.length = fl.length) (h : ∀ (i : Nat) (a : Addr) (x : Msg), ms[i]? = some a → fl[i]? = some x → MsAt A H t a x) (wf : WF { N with flying := fl }) :
    Rep A (upd H L.ml (.lst (ms.map V.ref))) t m { L with ms := ms } { N with flying := fl } := by
  have f : Off (some .msgs) t H (upd H L.ml (.lst (ms.map V.ref))) := Off.upd r.tml
  have n1 : ∀ {g : Tag}, g ≠ .msgs → (some Tag.msgs : Option Tag) ≠ some g := fun h e => h (Option.some.inj e).symm
  have n2 : ∀ {g : Tag}, g ≠ .msgs → (some g : Option Tag) ≠ some .msgs := fun h e => h (Option.some.inj e)
  exact ⟨let ⟨dx, e⟩ := r.mkt; ⟨dx, f _ _ e (by rw [r.tm]; exact n2 (by decide))⟩, r.tm, f _ _ r.pl (by rw [r.tpl]; exact n2 (by decide)), r.tpl, f _ _ r.al (by rw [r.tal]; exact n2 (by decide)), r.tal, let ⟨dx, e⟩ := r.nn; ⟨dx, f _ _ e (by rw [r.tnn]; exact n2 (by decide))⟩, r.tnn,
    upd_same, r.tml, r.lp, r.la, hl, fun i a x h1 h2 => (r.pt i a x h1 h2).off f (n1 (by decide)) (n1 (fun e => nomatch e)) (n1 (fun e => nomatch e)),
    fun i a x h1 h2 => (r.ac i a x h1 h2).off f (n1 (by decide)) (n1 (fun e => nomatch e)), fun i a x h1 h2 => (h i a x h1 h2).off f (n1 (by decide)), tl_upd r.tl, wf⟩
theorem n_pty {i : Nat} {g : Tag} (h : g ≠ .pty i) : (some (Tag.pty i) : Option Tag) ≠ some g := fun e => h (Option.some.inj e).symm
theorem n_pty' {i : Nat} {g : Tag} (h : g ≠ .pty i) : (some g : Option Tag) ≠ some (Tag.pty i) := fun e => h (Option.some.inj e)
/-- a party's own attributes -/
theorem Rep.party (r : Rep A H t m L N) {o : HO} {f : Party → Party} {y : Party} (ha : L.ps[i]? = some a) (hy : N.parties[i]? = some y) (new : PtAt A (upd H a o) t i a (f y)) (wf : GM.POk i (f y)) :
    Rep A (upd H a o) t m L (Vbemar.setParty N i f) := by
  obtain ⟨_, _, _, _, _, ta, _⟩ := r.pt i a y ha hy
  have k : Off (some (.pty i)) t H (upd H a o) := Off.upd ta
  have q := fun {g : Tag} (h : g ≠ .pty i) => @n_pty i g h
  have q' := fun {g : Tag} (h : g ≠ .pty i) => @n_pty' i g h
  have nf : ∀ {g : Tag}, (∀ j, g ≠ .pty j) → g ≠ .pty i := fun h => h i
  refine ⟨let ⟨dx, e⟩ := r.mkt; ⟨dx, ?_⟩, r.tm, k _ _ r.pl (by rw [r.tpl]; exact q' (fun e => nomatch e)), r.tpl, k _ _ r.al (by rw [r.tal]; exact q' (fun e => nomatch e)), r.tal, let ⟨dx, e⟩ := r.nn; ⟨dx, k _ _ e (by rw [r.tnn]; exact q' (fun e => nomatch e))⟩, r.tnn,
    k _ _ r.ml (by rw [r.tml]; exact q' (fun e => nomatch e)), r.tml, ?_, r.la, r.lm, fun j b x h1 h2 => ?_,
    fun i a x h1 h2 => (r.ac i a x h1 h2).off k (q (fun e => nomatch e)) (q (fun e => nomatch e)), fun i a x h1 h2 => (r.ms i a x h1 h2).off k (q (fun e => nomatch e)), tl_upd r.tl, r.wf.setParty fun x hx => ?_⟩
  · have e' : (Vbemar.setParty N i f).parties.length = N.parties.length := List.length_modify ..
    rw [e']
    exact k _ _ e (by rw [r.tm]; exact q' (fun e => nomatch e))
  · show L.ps.length = (N.parties.modify i f).length
    rw [List.length_modify]
    exact r.lp
  · obtain ⟨z, hz, ez⟩ := GM.modify_at h2
    by_cases c : i = j
    · subst c
      rw [if_pos rfl] at ez
      rw [hy] at hz
      cases hz
      rw [ha] at h1
      cases h1
      rw [ez]
      exact new
    · rw [if_neg c] at ez
      rw [ez]
      exact (r.pt j b z h1 hz).off k (q (fun e => nomatch e)) (q (fun e => c (Tag.pty.inj e).symm)) (q (fun e => nomatch e))
  · rw [hy] at hx
    cases hx
    exact wf
/-- a party's draft itself -/
theorem Rep.draft (r : Rep A H t m L N) {f : Party → Party} {y : Party} (ha : L.ps[i]? = some a) (hy : N.parties[i]? = some y) (k : Off (some (.drf i)) t H H') (tl' : ∀ b, H' b = none → t b = none) (new : PtAt A H' t i a (f y)) (wf : GM.POk i (f y)) :
    Rep A H' t m L (Vbemar.setParty N i f) := by
  have q : ∀ {g : Tag}, g ≠ .drf i → (some (Tag.drf i) : Option Tag) ≠ some g := fun h e => h (Option.some.inj e).symm
  have q' : ∀ {g : Tag}, g ≠ .drf i → (some g : Option Tag) ≠ some (Tag.drf i) := fun h e => h (Option.some.inj e)
  refine ⟨let ⟨dx, e⟩ := r.mkt; ⟨dx, ?_⟩, r.tm, k _ _ r.pl (by rw [r.tpl]; exact q' (fun e => nomatch e)), r.tpl, k _ _ r.al (by rw [r.tal]; exact q' (fun e => nomatch e)), r.tal, let ⟨dx, e⟩ := r.nn; ⟨dx, k _ _ e (by rw [r.tnn]; exact q' (fun e => nomatch e))⟩, r.tnn,
    k _ _ r.ml (by rw [r.tml]; exact q' (fun e => nomatch e)), r.tml, ?_, r.la, r.lm, fun j b x h1 h2 => ?_,
    fun i a x h1 h2 => (r.ac i a x h1 h2).off k (q (fun e => nomatch e)) (q (fun e => nomatch e)), fun i a x h1 h2 => (r.ms i a x h1 h2).off k (q (fun e => nomatch e)), tl', r.wf.setParty fun x hx => ?_⟩
  · have e' : (Vbemar.setParty N i f).parties.length = N.parties.length := List.length_modify ..
    rw [e']
    exact k _ _ e (by rw [r.tm]; exact q' (fun e => nomatch e))
  · show L.ps.length = (N.parties.modify i f).length
    rw [List.length_modify]
    exact r.lp
  · obtain ⟨z, hz, ez⟩ := GM.modify_at h2
    by_cases c : i = j
    · subst c
      rw [if_pos rfl] at ez
      rw [hy] at hz
      cases hz
      rw [ha] at h1
      cases h1
      rw [ez]
      exact new
    · rw [if_neg c] at ez
      rw [ez]
      exact (r.pt j b z h1 hz).off k (q (fun e => nomatch e)) (q (fun e => nomatch e)) (q (fun e => c (Tag.drf.inj e).symm))
  · rw [hy] at hx
    cases hx
    exact wf
/-- what the house holds for a party -/
theorem Rep.held (r : Rep A H t m L N) {o : HO} {f : Held → Held} {y : Held} (ha : L.as[i]? = some a) (hy : N.held[i]? = some y) (new : AcAt A (upd H a o) t i a (f y)) (wf : GM.Ok i (f y).sheet) :
    Rep A (upd H a o) t m L (Vbemar.setHeld N i f) := by
  obtain ⟨_, _, _, ta, _⟩ := r.ac i a y ha hy
  have k : Off (some (.acc i)) t H (upd H a o) := Off.upd ta
  have q : ∀ {g : Tag}, g ≠ .acc i → (some (Tag.acc i) : Option Tag) ≠ some g := fun h e => h (Option.some.inj e).symm
  have q' : ∀ {g : Tag}, g ≠ .acc i → (some g : Option Tag) ≠ some (Tag.acc i) := fun h e => h (Option.some.inj e)
  refine ⟨let ⟨dx, e⟩ := r.mkt; ⟨dx, k _ _ e (by rw [r.tm]; exact q' (fun e => nomatch e))⟩, r.tm, k _ _ r.pl (by rw [r.tpl]; exact q' (fun e => nomatch e)), r.tpl, k _ _ r.al (by rw [r.tal]; exact q' (fun e => nomatch e)), r.tal, let ⟨dx, e⟩ := r.nn; ⟨dx, k _ _ e (by rw [r.tnn]; exact q' (fun e => nomatch e))⟩, r.tnn,
    k _ _ r.ml (by rw [r.tml]; exact q' (fun e => nomatch e)), r.tml, r.lp, ?_, r.lm, fun i a x h1 h2 => (r.pt i a x h1 h2).off k (q (fun e => nomatch e)) (q (fun e => nomatch e)) (q (fun e => nomatch e)), fun j b x h1 h2 => ?_,
    fun i a x h1 h2 => (r.ms i a x h1 h2).off k (q (fun e => nomatch e)), tl_upd r.tl, r.wf.setHeld fun x hx => ?_⟩
  · show L.as.length = (N.held.modify i f).length
    rw [List.length_modify]
    exact r.la
  · obtain ⟨z, hz, ez⟩ := GM.modify_at h2
    by_cases c : i = j
    · subst c
      rw [if_pos rfl] at ez
      rw [hy] at hz
      cases hz
      rw [ha] at h1
      cases h1
      rw [ez]
      exact new
    · rw [if_neg c] at ez
      rw [ez]
      exact (r.ac j b z h1 hz).off k (q (fun e => nomatch e)) (q (fun e => c (Tag.acc.inj e).symm))
  · rw [hy] at hx
    cases hx
    exact wf
end
end G
end
section
set_option Elab.async false
set_option linter.all false
set_option maxRecDepth 100000
set_option maxHeartbeats 1000000
namespace G
open PySem PySem.Spec PyProof.Rows L2
def top (i : Nat) : Stmt := PySem.Challenge.pw_gatehouse_s01_answers.main.body.getD i (.Pass ⟨0, 0, 0, 0⟩)
abbrev s_write_amount : Stmt := top 1
abbrev s_read_amount : Stmt := top 2
abbrev s_count_rows : Stmt := top 3
abbrev s_list_rows : Stmt := top 4
abbrev s_match_amounts : Stmt := top 5
abbrev s_Message_init : Stmt := inClass (top 13) 0
abbrev s_Net_init : Stmt := inClass (top 14) 0
abbrev s_Net_under_way : Stmt := inClass (top 14) 1
abbrev s_Net_full : Stmt := inClass (top 14) 2
abbrev s_Net_post : Stmt := inClass (top 14) 3
abbrev s_Net_take : Stmt := inClass (top 14) 4
abbrev s_Net_double : Stmt := inClass (top 14) 5
abbrev s_describe : Stmt := top 15
abbrev s_describe_all : Stmt := top 16
abbrev s_Party_init : Stmt := inClass (top 18) 0
abbrev s_Account_init : Stmt := inClass (top 19) 0
abbrev s_Market_init : Stmt := inClass (top 20) 0
abbrev s_Market_party_of : Stmt := inClass (top 20) 1
abbrev s_Market_account_of : Stmt := inClass (top 20) 2
abbrev s_held_amount : Stmt := top 21
abbrev s_matched_sheet : Stmt := top 22
abbrev s_matched_sum : Stmt := top 23
abbrev s_list_unmatched : Stmt := top 24
abbrev s_post_sent_sheet : Stmt := top 26
abbrev s_send : Stmt := top 27
abbrev s_arrive : Stmt := top 28
abbrev s_receive_sheet : Stmt := top 29
abbrev s_receive_have : Stmt := top 30
abbrev s_receive_late : Stmt := top 31
abbrev s_receive_matched : Stmt := top 32
abbrev s_receive_seen : Stmt := top 33
abbrev s_tick : Stmt := top 34
abbrev s_post_again : Stmt := top 35
abbrev s_post_confirmations : Stmt := top 36
abbrev s_calm : Stmt := top 37
abbrev s_Session_init : Stmt := inClass (top 52) 0
abbrev s_write_call : Stmt := top 53
abbrev s_clear_call : Stmt := top 54
abbrev s_send_call : Stmt := top 55
abbrev s_as_number : Stmt := top 56
abbrev s_tell_tick : Stmt := top 57
abbrev s_tick_call : Stmt := top 58
abbrev s_deliver_call : Stmt := top 59
abbrev s_lose_call : Stmt := top 60
abbrev s_double_call : Stmt := top 61
abbrev s_calm_call : Stmt := top 62
abbrev s_party_call : Stmt := top 63
abbrev s_house_call : Stmt := top 64
abbrev s_draft_call : Stmt := top 65
abbrev s_held_call : Stmt := top 66
abbrev s_final_call : Stmt := top 67
abbrev s_belief_call : Stmt := top 68
abbrev s_flying_call : Stmt := top 69
abbrev s_unmatched_call : Stmt := top 70
abbrev s_now_call : Stmt := top 71
abbrev s_total_call : Stmt := top 72
abbrev s_width_of : Stmt := top 74
abbrev s_in_ranges : Stmt := top 75
abbrev s_answer_call : Stmt := top 76
abbrev s_answers : Stmt := top 78
theorem sc_write_amount : FnScope ["sheet", "other", "quarter", "amount"] ["sheet", "other", "quarter", "amount"] (defScope s_write_amount) := ⟨rfl, rfl, rfl, by decide +kernel, rfl, by decide +kernel, by decide +kernel⟩
theorem sc_read_amount : FnScope ["sheet", "other", "quarter"] ["sheet", "other", "quarter"] (defScope s_read_amount) := ⟨rfl, rfl, rfl, by decide +kernel, rfl, by decide +kernel, by decide +kernel⟩
theorem sc_count_rows : FnScope ["sheet"] ["sheet"] (defScope s_count_rows) := ⟨rfl, rfl, rfl, by decide +kernel, rfl, by decide +kernel, by decide +kernel⟩
theorem sc_list_rows : FnScope ["sheet", "rows", "other", "quarter"] ["sheet"] (defScope s_list_rows) := ⟨rfl, rfl, rfl, by decide +kernel, rfl, by decide +kernel, by decide +kernel⟩
theorem sc_match_amounts : FnScope ["own", "theirs"] ["own", "theirs"] (defScope s_match_amounts) := ⟨rfl, rfl, rfl, by decide +kernel, rfl, by decide +kernel, by decide +kernel⟩
theorem sc_Message_init : FnScope ["self", "kind", "party", "version", "sheet"] ["self", "kind", "party", "version", "sheet"] (defScope s_Message_init) := ⟨rfl, rfl, rfl, by decide +kernel, rfl, by decide +kernel, by decide +kernel⟩
theorem sc_Net_init : FnScope ["self"] ["self"] (defScope s_Net_init) := ⟨rfl, rfl, rfl, by decide +kernel, rfl, by decide +kernel, by decide +kernel⟩
theorem sc_Net_under_way : FnScope ["self"] ["self"] (defScope s_Net_under_way) := ⟨rfl, rfl, rfl, by decide +kernel, rfl, by decide +kernel, by decide +kernel⟩
theorem sc_Net_full : FnScope ["self"] ["self"] (defScope s_Net_full) := ⟨rfl, rfl, rfl, by decide +kernel, rfl, by decide +kernel, by decide +kernel⟩
theorem sc_Net_post : FnScope ["self", "message"] ["self", "message"] (defScope s_Net_post) := ⟨rfl, rfl, rfl, by decide +kernel, rfl, by decide +kernel, by decide +kernel⟩
theorem sc_Net_take : FnScope ["self", "place"] ["self", "place"] (defScope s_Net_take) := ⟨rfl, rfl, rfl, by decide +kernel, rfl, by decide +kernel, by decide +kernel⟩
theorem sc_Net_double : FnScope ["self", "place"] ["self", "place"] (defScope s_Net_double) := ⟨rfl, rfl, rfl, by decide +kernel, rfl, by decide +kernel, by decide +kernel⟩
theorem sc_describe : FnScope ["message"] ["message"] (defScope s_describe) := ⟨rfl, rfl, rfl, by decide +kernel, rfl, by decide +kernel, by decide +kernel⟩
theorem sc_describe_all : FnScope ["net", "described", "message"] ["net"] (defScope s_describe_all) := ⟨rfl, rfl, rfl, by decide +kernel, rfl, by decide +kernel, by decide +kernel⟩
theorem sc_Party_init : FnScope ["self"] ["self"] (defScope s_Party_init) := ⟨rfl, rfl, rfl, by decide +kernel, rfl, by decide +kernel, by decide +kernel⟩
theorem sc_Account_init : FnScope ["self"] ["self"] (defScope s_Account_init) := ⟨rfl, rfl, rfl, by decide +kernel, rfl, by decide +kernel, by decide +kernel⟩
theorem sc_Market_init : FnScope ["self", "party_count", "quarter_count", "gate", "place"] ["self", "party_count", "quarter_count", "gate"] (defScope s_Market_init) := ⟨rfl, rfl, rfl, by decide +kernel, rfl, by decide +kernel, by decide +kernel⟩
theorem sc_Market_party_of : FnScope ["self", "number"] ["self", "number"] (defScope s_Market_party_of) := ⟨rfl, rfl, rfl, by decide +kernel, rfl, by decide +kernel, by decide +kernel⟩
theorem sc_Market_account_of : FnScope ["self", "number"] ["self", "number"] (defScope s_Market_account_of) := ⟨rfl, rfl, rfl, by decide +kernel, rfl, by decide +kernel, by decide +kernel⟩
theorem sc_held_amount : FnScope ["market", "number", "other", "quarter"] ["market", "number", "other", "quarter"] (defScope s_held_amount) := ⟨rfl, rfl, rfl, by decide +kernel, rfl, by decide +kernel, by decide +kernel⟩
theorem sc_matched_sheet : FnScope ["market", "number", "matched", "other", "quarter", "own", "theirs"] ["market", "number"] (defScope s_matched_sheet) := ⟨rfl, rfl, rfl, by decide +kernel, rfl, by decide +kernel, by decide +kernel⟩
theorem sc_matched_sum : FnScope ["market", "number", "quarter", "matched", "other"] ["market", "number", "quarter"] (defScope s_matched_sum) := ⟨rfl, rfl, rfl, by decide +kernel, rfl, by decide +kernel, by decide +kernel⟩
theorem sc_list_unmatched : FnScope ["market", "unmatched", "number", "other", "quarter", "own", "theirs"] ["market"] (defScope s_list_unmatched) := ⟨rfl, rfl, rfl, by decide +kernel, rfl, by decide +kernel, by decide +kernel⟩
theorem sc_post_sent_sheet : FnScope ["market", "number", "party"] ["market", "number"] (defScope s_post_sent_sheet) := ⟨rfl, rfl, rfl, by decide +kernel, rfl, by decide +kernel, by decide +kernel⟩
theorem sc_send : FnScope ["market", "number", "party"] ["market", "number"] (defScope s_send) := ⟨rfl, rfl, rfl, by decide +kernel, rfl, by decide +kernel, by decide +kernel⟩
theorem sc_arrive : FnScope ["market", "message"] ["market", "message"] (defScope s_arrive) := ⟨rfl, rfl, rfl, by decide +kernel, rfl, by decide +kernel, by decide +kernel⟩
theorem sc_receive_sheet : FnScope ["market", "message", "account", "reply"] ["market", "message"] (defScope s_receive_sheet) := ⟨rfl, rfl, rfl, by decide +kernel, rfl, by decide +kernel, by decide +kernel⟩
theorem sc_receive_have : FnScope ["market", "message", "party"] ["market", "message"] (defScope s_receive_have) := ⟨rfl, rfl, rfl, by decide +kernel, rfl, by decide +kernel, by decide +kernel⟩
theorem sc_receive_late : FnScope ["market", "message", "party"] ["market", "message"] (defScope s_receive_late) := ⟨rfl, rfl, rfl, by decide +kernel, rfl, by decide +kernel, by decide +kernel⟩
theorem sc_receive_matched : FnScope ["market", "message", "party"] ["market", "message"] (defScope s_receive_matched) := ⟨rfl, rfl, rfl, by decide +kernel, rfl, by decide +kernel, by decide +kernel⟩
theorem sc_receive_seen : FnScope ["market", "message", "account"] ["market", "message"] (defScope s_receive_seen) := ⟨rfl, rfl, rfl, by decide +kernel, rfl, by decide +kernel, by decide +kernel⟩
theorem sc_tick : FnScope ["market"] ["market"] (defScope s_tick) := ⟨rfl, rfl, rfl, by decide +kernel, rfl, by decide +kernel, by decide +kernel⟩
theorem sc_post_again : FnScope ["market", "number"] ["market"] (defScope s_post_again) := ⟨rfl, rfl, rfl, by decide +kernel, rfl, by decide +kernel, by decide +kernel⟩
theorem sc_post_confirmations : FnScope ["market", "number"] ["market"] (defScope s_post_confirmations) := ⟨rfl, rfl, rfl, by decide +kernel, rfl, by decide +kernel, by decide +kernel⟩
theorem sc_calm : FnScope ["market", "rounds", "done"] ["market", "rounds"] (defScope s_calm) := ⟨rfl, rfl, rfl, by decide +kernel, rfl, by decide +kernel, by decide +kernel⟩
theorem sc_Session_init : FnScope ["self"] ["self"] (defScope s_Session_init) := ⟨rfl, rfl, rfl, by decide +kernel, rfl, by decide +kernel, by decide +kernel⟩
theorem sc_write_call : FnScope ["market", "numbers", "number", "other", "quarter"] ["market", "numbers"] (defScope s_write_call) := ⟨rfl, rfl, rfl, by decide +kernel, rfl, by decide +kernel, by decide +kernel⟩
theorem sc_clear_call : FnScope ["market", "numbers", "party"] ["market", "numbers"] (defScope s_clear_call) := ⟨rfl, rfl, rfl, by decide +kernel, rfl, by decide +kernel, by decide +kernel⟩
theorem sc_send_call : FnScope ["market", "numbers", "number", "party"] ["market", "numbers"] (defScope s_send_call) := ⟨rfl, rfl, rfl, by decide +kernel, rfl, by decide +kernel, by decide +kernel⟩
theorem sc_as_number : FnScope ["truth"] ["truth"] (defScope s_as_number) := ⟨rfl, rfl, rfl, by decide +kernel, rfl, by decide +kernel, by decide +kernel⟩
theorem sc_tell_tick : FnScope ["market"] ["market"] (defScope s_tell_tick) := ⟨rfl, rfl, rfl, by decide +kernel, rfl, by decide +kernel, by decide +kernel⟩
theorem sc_tick_call : FnScope ["market", "numbers"] ["market", "numbers"] (defScope s_tick_call) := ⟨rfl, rfl, rfl, by decide +kernel, rfl, by decide +kernel, by decide +kernel⟩
theorem sc_deliver_call : FnScope ["market", "numbers", "place", "message"] ["market", "numbers"] (defScope s_deliver_call) := ⟨rfl, rfl, rfl, by decide +kernel, rfl, by decide +kernel, by decide +kernel⟩
theorem sc_lose_call : FnScope ["market", "numbers", "place"] ["market", "numbers"] (defScope s_lose_call) := ⟨rfl, rfl, rfl, by decide +kernel, rfl, by decide +kernel, by decide +kernel⟩
theorem sc_double_call : FnScope ["market", "numbers", "place"] ["market", "numbers"] (defScope s_double_call) := ⟨rfl, rfl, rfl, by decide +kernel, rfl, by decide +kernel, by decide +kernel⟩
theorem sc_calm_call : FnScope ["market", "numbers"] ["market", "numbers"] (defScope s_calm_call) := ⟨rfl, rfl, rfl, by decide +kernel, rfl, by decide +kernel, by decide +kernel⟩
theorem sc_party_call : FnScope ["market", "numbers", "party", "waits", "too_late", "believes"] ["market", "numbers"] (defScope s_party_call) := ⟨rfl, rfl, rfl, by decide +kernel, rfl, by decide +kernel, by decide +kernel⟩
theorem sc_house_call : FnScope ["market", "numbers", "account"] ["market", "numbers"] (defScope s_house_call) := ⟨rfl, rfl, rfl, by decide +kernel, rfl, by decide +kernel, by decide +kernel⟩
theorem sc_draft_call : FnScope ["market", "numbers"] ["market", "numbers"] (defScope s_draft_call) := ⟨rfl, rfl, rfl, by decide +kernel, rfl, by decide +kernel, by decide +kernel⟩
theorem sc_held_call : FnScope ["market", "numbers"] ["market", "numbers"] (defScope s_held_call) := ⟨rfl, rfl, rfl, by decide +kernel, rfl, by decide +kernel, by decide +kernel⟩
theorem sc_final_call : FnScope ["market", "numbers"] ["market", "numbers"] (defScope s_final_call) := ⟨rfl, rfl, rfl, by decide +kernel, rfl, by decide +kernel, by decide +kernel⟩
theorem sc_belief_call : FnScope ["market", "numbers", "belief"] ["market", "numbers"] (defScope s_belief_call) := ⟨rfl, rfl, rfl, by decide +kernel, rfl, by decide +kernel, by decide +kernel⟩
theorem sc_flying_call : FnScope ["market", "numbers"] ["market", "numbers"] (defScope s_flying_call) := ⟨rfl, rfl, rfl, by decide +kernel, rfl, by decide +kernel, by decide +kernel⟩
theorem sc_unmatched_call : FnScope ["market", "numbers"] ["market", "numbers"] (defScope s_unmatched_call) := ⟨rfl, rfl, rfl, by decide +kernel, rfl, by decide +kernel, by decide +kernel⟩
theorem sc_now_call : FnScope ["market", "numbers"] ["market", "numbers"] (defScope s_now_call) := ⟨rfl, rfl, rfl, by decide +kernel, rfl, by decide +kernel, by decide +kernel⟩
theorem sc_total_call : FnScope ["market", "numbers", "quarter", "number"] ["market", "numbers"] (defScope s_total_call) := ⟨rfl, rfl, rfl, by decide +kernel, rfl, by decide +kernel, by decide +kernel⟩
theorem sc_width_of : FnScope ["call"] ["call"] (defScope s_width_of) := ⟨rfl, rfl, rfl, by decide +kernel, rfl, by decide +kernel, by decide +kernel⟩
theorem sc_in_ranges : FnScope ["call", "numbers", "value", "bounds"] ["call", "numbers"] (defScope s_in_ranges) := ⟨rfl, rfl, rfl, by decide +kernel, rfl, by decide +kernel, by decide +kernel⟩
theorem sc_answer_call : FnScope ["session", "call", "numbers", "market", "handler"] ["session", "call", "numbers"] (defScope s_answer_call) := ⟨rfl, rfl, rfl, by decide +kernel, rfl, by decide +kernel, by decide +kernel⟩
theorem sc_answers : FnScope ["calls", "session", "answered", "place", "call", "first", "answer"] ["calls"] (defScope s_answers) := ⟨rfl, rfl, rfl, by decide +kernel, rfl, by decide +kernel, by decide +kernel⟩
structure Ad extends Adr where
  f_write_amount : Addr
  d_write_amount : FuncData
  f_read_amount : Addr
  d_read_amount : FuncData
  f_count_rows : Addr
  d_count_rows : FuncData
  f_list_rows : Addr
  d_list_rows : FuncData
  f_match_amounts : Addr
  d_match_amounts : FuncData
  f_Message_init : Addr
  d_Message_init : FuncData
  f_Net_init : Addr
  d_Net_init : FuncData
  f_Net_under_way : Addr
  d_Net_under_way : FuncData
  f_Net_full : Addr
  d_Net_full : FuncData
  f_Net_post : Addr
  d_Net_post : FuncData
  f_Net_take : Addr
  d_Net_take : FuncData
  f_Net_double : Addr
  d_Net_double : FuncData
  f_describe : Addr
  d_describe : FuncData
  f_describe_all : Addr
  d_describe_all : FuncData
  f_Party_init : Addr
  d_Party_init : FuncData
  f_Account_init : Addr
  d_Account_init : FuncData
  f_Market_init : Addr
  d_Market_init : FuncData
  f_Market_party_of : Addr
  d_Market_party_of : FuncData
  f_Market_account_of : Addr
  d_Market_account_of : FuncData
  f_held_amount : Addr
  d_held_amount : FuncData
  f_matched_sheet : Addr
  d_matched_sheet : FuncData
  f_matched_sum : Addr
  d_matched_sum : FuncData
  f_list_unmatched : Addr
  d_list_unmatched : FuncData
  f_post_sent_sheet : Addr
  d_post_sent_sheet : FuncData
  f_send : Addr
  d_send : FuncData
  f_arrive : Addr
  d_arrive : FuncData
  f_receive_sheet : Addr
  d_receive_sheet : FuncData
  f_receive_have : Addr
  d_receive_have : FuncData
  f_receive_late : Addr
  d_receive_late : FuncData
  f_receive_matched : Addr
  d_receive_matched : FuncData
  f_receive_seen : Addr
  d_receive_seen : FuncData
  f_tick : Addr
  d_tick : FuncData
  f_post_again : Addr
  d_post_again : FuncData
  f_post_confirmations : Addr
  d_post_confirmations : FuncData
  f_calm : Addr
  d_calm : FuncData
  f_Session_init : Addr
  d_Session_init : FuncData
  f_write_call : Addr
  d_write_call : FuncData
  f_clear_call : Addr
  d_clear_call : FuncData
  f_send_call : Addr
  d_send_call : FuncData
  f_as_number : Addr
  d_as_number : FuncData
  f_tell_tick : Addr
  d_tell_tick : FuncData
  f_tick_call : Addr
  d_tick_call : FuncData
  f_deliver_call : Addr
  d_deliver_call : FuncData
  f_lose_call : Addr
  d_lose_call : FuncData
  f_double_call : Addr
  d_double_call : FuncData
  f_calm_call : Addr
  d_calm_call : FuncData
  f_party_call : Addr
  d_party_call : FuncData
  f_house_call : Addr
  d_house_call : FuncData
  f_draft_call : Addr
  d_draft_call : FuncData
  f_held_call : Addr
  d_held_call : FuncData
  f_final_call : Addr
  d_final_call : FuncData
  f_belief_call : Addr
  d_belief_call : FuncData
  f_flying_call : Addr
  d_flying_call : FuncData
  f_unmatched_call : Addr
  d_unmatched_call : FuncData
  f_now_call : Addr
  d_now_call : FuncData
  f_total_call : Addr
  d_total_call : FuncData
  f_width_of : Addr
  d_width_of : FuncData
  f_in_ranges : Addr
  d_in_ranges : FuncData
  f_answer_call : Addr
  d_answer_call : FuncData
  f_answers : Addr
  d_answers : FuncData
  t_RANGES : Addr
  t_PARTY_CALLS : Addr
  t_HANDLERS : Addr
structure FnT (K : PySem.W.Frag) (mg : Str → Option Value) (x : Str) (st : Stmt) (ps : List Str) (f : Addr) (fd : FuncData) : Prop where
  fn : Fun K x x st f fd
  bd : Binds K fd ps []
  mg : mg x = some (.ref f)
structure MeT (K : PySem.W.Frag) (C : Addr) (m qual : Str) (st : Stmt) (ps : List Str) (f : Addr) (fd : FuncData) : Prop where
  fn : Fun K m qual st f fd
  bd : Binds K fd ps []
  me : Meth K C m f
structure InT (K : PySem.W.Frag) (C : Addr) (qual : Str) (st : Stmt) (ps : List Str) (f : Addr) (fd : FuncData) : Prop where
  fn : Fun K "__init__" qual st f fd
  bd : Binds K fd ps []
  maker : Mk K C f
def tab_RANGES : List (Int × List (Int × Int)) := [(0, [(2, 4), (1, 3), (1, 100)]), (1, [(1, 4), (1, 4), (1, 3), (-1000000000, 1000000000)]), (2, [(1, 4)]), (3, [(1, 4)]), (4, []), (5, [(1, 40)]), (6, [(1, 40)]), (7, [(1, 40)]), (8, [(1, 5)]), (9, [(1, 4)]), (10, [(1, 4)]), (11, [(1, 4)]), (12, [(1, 4)]), (13, [(1, 4)]), (14, [(1, 4)]), (15, []), (16, []), (17, []), (18, [(1, 3)])]
def tab_PARTY_CALLS : List Int := [1, 2, 3, 9, 10, 11, 12, 13, 14]
def tab_HANDLERS (a : Ad) : List (Int × Addr) := [(1, a.f_write_call), (2, a.f_clear_call), (3, a.f_send_call), (4, a.f_tick_call), (5, a.f_deliver_call), (6, a.f_lose_call), (7, a.f_double_call), (8, a.f_calm_call), (9, a.f_party_call), (10, a.f_house_call), (11, a.f_draft_call), (12, a.f_held_call), (13, a.f_final_call), (14, a.f_belief_call), (15, a.f_flying_call), (16, a.f_unmatched_call), (17, a.f_now_call), (18, a.f_total_call)]
structure Txt (K : PySem.W.Frag) (mg : Str → Option Value) (a : Ad) : Prop where
  write_amount : FnT K mg "write_amount" s_write_amount ["sheet", "other", "quarter", "amount"] a.f_write_amount a.d_write_amount
  read_amount : FnT K mg "read_amount" s_read_amount ["sheet", "other", "quarter"] a.f_read_amount a.d_read_amount
  count_rows : FnT K mg "count_rows" s_count_rows ["sheet"] a.f_count_rows a.d_count_rows
  list_rows : FnT K mg "list_rows" s_list_rows ["sheet"] a.f_list_rows a.d_list_rows
  match_amounts : FnT K mg "match_amounts" s_match_amounts ["own", "theirs"] a.f_match_amounts a.d_match_amounts
  Message_init : InT K a.cMsg "Message.__init__" s_Message_init ["self", "kind", "party", "version", "sheet"] a.f_Message_init a.d_Message_init
  Net_init : InT K a.cNet "Net.__init__" s_Net_init ["self"] a.f_Net_init a.d_Net_init
  Net_under_way : MeT K a.cNet "under_way" "Net.under_way" s_Net_under_way ["self"] a.f_Net_under_way a.d_Net_under_way
  Net_full : MeT K a.cNet "full" "Net.full" s_Net_full ["self"] a.f_Net_full a.d_Net_full
  Net_post : MeT K a.cNet "post" "Net.post" s_Net_post ["self", "message"] a.f_Net_post a.d_Net_post
  Net_take : MeT K a.cNet "take" "Net.take" s_Net_take ["self", "place"] a.f_Net_take a.d_Net_take
  Net_double : MeT K a.cNet "double" "Net.double" s_Net_double ["self", "place"] a.f_Net_double a.d_Net_double
  describe : FnT K mg "describe" s_describe ["message"] a.f_describe a.d_describe
  describe_all : FnT K mg "describe_all" s_describe_all ["net"] a.f_describe_all a.d_describe_all
  Party_init : InT K a.cPty "Party.__init__" s_Party_init ["self"] a.f_Party_init a.d_Party_init
  Account_init : InT K a.cAcc "Account.__init__" s_Account_init ["self"] a.f_Account_init a.d_Account_init
  Market_init : InT K a.cMkt "Market.__init__" s_Market_init ["self", "party_count", "quarter_count", "gate"] a.f_Market_init a.d_Market_init
  Market_party_of : MeT K a.cMkt "party_of" "Market.party_of" s_Market_party_of ["self", "number"] a.f_Market_party_of a.d_Market_party_of
  Market_account_of : MeT K a.cMkt "account_of" "Market.account_of" s_Market_account_of ["self", "number"] a.f_Market_account_of a.d_Market_account_of
  held_amount : FnT K mg "held_amount" s_held_amount ["market", "number", "other", "quarter"] a.f_held_amount a.d_held_amount
  matched_sheet : FnT K mg "matched_sheet" s_matched_sheet ["market", "number"] a.f_matched_sheet a.d_matched_sheet
  matched_sum : FnT K mg "matched_sum" s_matched_sum ["market", "number", "quarter"] a.f_matched_sum a.d_matched_sum
  list_unmatched : FnT K mg "list_unmatched" s_list_unmatched ["market"] a.f_list_unmatched a.d_list_unmatched
  post_sent_sheet : FnT K mg "post_sent_sheet" s_post_sent_sheet ["market", "number"] a.f_post_sent_sheet a.d_post_sent_sheet
  send : FnT K mg "send" s_send ["market", "number"] a.f_send a.d_send
  arrive : FnT K mg "arrive" s_arrive ["market", "message"] a.f_arrive a.d_arrive
  receive_sheet : FnT K mg "receive_sheet" s_receive_sheet ["market", "message"] a.f_receive_sheet a.d_receive_sheet
  receive_have : FnT K mg "receive_have" s_receive_have ["market", "message"] a.f_receive_have a.d_receive_have
  receive_late : FnT K mg "receive_late" s_receive_late ["market", "message"] a.f_receive_late a.d_receive_late
  receive_matched : FnT K mg "receive_matched" s_receive_matched ["market", "message"] a.f_receive_matched a.d_receive_matched
  receive_seen : FnT K mg "receive_seen" s_receive_seen ["market", "message"] a.f_receive_seen a.d_receive_seen
  tick : FnT K mg "tick" s_tick ["market"] a.f_tick a.d_tick
  post_again : FnT K mg "post_again" s_post_again ["market"] a.f_post_again a.d_post_again
  post_confirmations : FnT K mg "post_confirmations" s_post_confirmations ["market"] a.f_post_confirmations a.d_post_confirmations
  calm : FnT K mg "calm" s_calm ["market", "rounds"] a.f_calm a.d_calm
  Session_init : InT K a.cSes "Session.__init__" s_Session_init ["self"] a.f_Session_init a.d_Session_init
  write_call : FnT K mg "write_call" s_write_call ["market", "numbers"] a.f_write_call a.d_write_call
  clear_call : FnT K mg "clear_call" s_clear_call ["market", "numbers"] a.f_clear_call a.d_clear_call
  send_call : FnT K mg "send_call" s_send_call ["market", "numbers"] a.f_send_call a.d_send_call
  as_number : FnT K mg "as_number" s_as_number ["truth"] a.f_as_number a.d_as_number
  tell_tick : FnT K mg "tell_tick" s_tell_tick ["market"] a.f_tell_tick a.d_tell_tick
  tick_call : FnT K mg "tick_call" s_tick_call ["market", "numbers"] a.f_tick_call a.d_tick_call
  deliver_call : FnT K mg "deliver_call" s_deliver_call ["market", "numbers"] a.f_deliver_call a.d_deliver_call
  lose_call : FnT K mg "lose_call" s_lose_call ["market", "numbers"] a.f_lose_call a.d_lose_call
  double_call : FnT K mg "double_call" s_double_call ["market", "numbers"] a.f_double_call a.d_double_call
  calm_call : FnT K mg "calm_call" s_calm_call ["market", "numbers"] a.f_calm_call a.d_calm_call
  party_call : FnT K mg "party_call" s_party_call ["market", "numbers"] a.f_party_call a.d_party_call
  house_call : FnT K mg "house_call" s_house_call ["market", "numbers"] a.f_house_call a.d_house_call
  draft_call : FnT K mg "draft_call" s_draft_call ["market", "numbers"] a.f_draft_call a.d_draft_call
  held_call : FnT K mg "held_call" s_held_call ["market", "numbers"] a.f_held_call a.d_held_call
  final_call : FnT K mg "final_call" s_final_call ["market", "numbers"] a.f_final_call a.d_final_call
  belief_call : FnT K mg "belief_call" s_belief_call ["market", "numbers"] a.f_belief_call a.d_belief_call
  flying_call : FnT K mg "flying_call" s_flying_call ["market", "numbers"] a.f_flying_call a.d_flying_call
  unmatched_call : FnT K mg "unmatched_call" s_unmatched_call ["market", "numbers"] a.f_unmatched_call a.d_unmatched_call
  now_call : FnT K mg "now_call" s_now_call ["market", "numbers"] a.f_now_call a.d_now_call
  total_call : FnT K mg "total_call" s_total_call ["market", "numbers"] a.f_total_call a.d_total_call
  width_of : FnT K mg "width_of" s_width_of ["call"] a.f_width_of a.d_width_of
  in_ranges : FnT K mg "in_ranges" s_in_ranges ["call", "numbers"] a.f_in_ranges a.d_in_ranges
  answer_call : FnT K mg "answer_call" s_answer_call ["session", "call", "numbers"] a.f_answer_call a.d_answer_call
  answers : FnT K mg "answers" s_answers ["calls"] a.f_answers a.d_answers
  cl_Message : Cls K a.cMsg
  mg_Message : mg "Message" = some (.ref a.cMsg)
  na_Message_kind : NoAttr K a.cMsg "kind"
  na_Message_party : NoAttr K a.cMsg "party"
  na_Message_version : NoAttr K a.cMsg "version"
  na_Message_sheet : NoAttr K a.cMsg "sheet"
  cl_Net : Cls K a.cNet
  mg_Net : mg "Net" = some (.ref a.cNet)
  na_Net_messages : NoAttr K a.cNet "messages"
  cl_Party : Cls K a.cPty
  mg_Party : mg "Party" = some (.ref a.cPty)
  na_Party_draft : NoAttr K a.cPty "draft"
  na_Party_sent : NoAttr K a.cPty "sent"
  na_Party_version : NoAttr K a.cPty "version"
  na_Party_acked : NoAttr K a.cPty "acked"
  na_Party_waits : NoAttr K a.cPty "waits"
  na_Party_too_late : NoAttr K a.cPty "too_late"
  na_Party_belief : NoAttr K a.cPty "belief"
  cl_Account : Cls K a.cAcc
  mg_Account : mg "Account" = some (.ref a.cAcc)
  na_Account_version : NoAttr K a.cAcc "version"
  na_Account_sheet : NoAttr K a.cAcc "sheet"
  na_Account_seen : NoAttr K a.cAcc "seen"
  cl_Market : Cls K a.cMkt
  mg_Market : mg "Market" = some (.ref a.cMkt)
  na_Market_party_count : NoAttr K a.cMkt "party_count"
  na_Market_quarter_count : NoAttr K a.cMkt "quarter_count"
  na_Market_gate : NoAttr K a.cMkt "gate"
  na_Market_time : NoAttr K a.cMkt "time"
  na_Market_closed : NoAttr K a.cMkt "closed"
  na_Market_parties : NoAttr K a.cMkt "parties"
  na_Market_accounts : NoAttr K a.cMkt "accounts"
  na_Market_net : NoAttr K a.cMkt "net"
  cl_Session : Cls K a.cSes
  mg_Session : mg "Session" = some (.ref a.cSes)
  na_Session_market : NoAttr K a.cSes "market"
  c_MOST_MESSAGES : ∃ t, mg "MOST_MESSAGES" = some (.int (40) t)
  c_KIND_SHEET : ∃ t, mg "KIND_SHEET" = some (.int (1) t)
  c_KIND_HAVE : ∃ t, mg "KIND_HAVE" = some (.int (2) t)
  c_KIND_LATE : ∃ t, mg "KIND_LATE" = some (.int (3) t)
  c_KIND_MATCHED : ∃ t, mg "KIND_MATCHED" = some (.int (4) t)
  c_KIND_SEEN : ∃ t, mg "KIND_SEEN" = some (.int (5) t)
  c_ACCEPTED : ∃ t, mg "ACCEPTED" = some (.int (0) t)
  c_OUT_OF_RANGE : ∃ t, mg "OUT_OF_RANGE" = some (.int (-1) t)
  c_NOTHING_OPEN : ∃ t, mg "NOTHING_OPEN" = some (.int (-2) t)
  c_NO_SUCH_PARTY : ∃ t, mg "NO_SUCH_PARTY" = some (.int (-3) t)
  c_NO_SUCH_QUARTER : ∃ t, mg "NO_SUCH_QUARTER" = some (.int (-4) t)
  c_NO_MORE_VERSIONS : ∃ t, mg "NO_MORE_VERSIONS" = some (.int (-5) t)
  c_NO_SUCH_MESSAGE : ∃ t, mg "NO_SUCH_MESSAGE" = some (.int (-6) t)
  c_NET_IS_FULL : ∃ t, mg "NET_IS_FULL" = some (.int (-7) t)
  c_NOT_YET : ∃ t, mg "NOT_YET" = some (.int (-8) t)
  c_CALL_OPEN : ∃ t, mg "CALL_OPEN" = some (.int (0) t)
  c_LAST_VERSION : ∃ t, mg "LAST_VERSION" = some (.int (50) t)
  mg_RANGES : mg "RANGES" = some (.ref a.t_RANGES)
  ts_RANGES : (a.t_RANGES == sysModules) = false
  tb_RANGES : tblOk K a.t_RANGES tab_RANGES = true
  mg_PARTY_CALLS : mg "PARTY_CALLS" = some (.ref a.t_PARTY_CALLS)
  ts_PARTY_CALLS : (a.t_PARTY_CALLS == sysModules) = false
  tb_PARTY_CALLS : tupOk K a.t_PARTY_CALLS tab_PARTY_CALLS = true
  mg_HANDLERS : mg "HANDLERS" = some (.ref a.t_HANDLERS)
  ts_HANDLERS : (a.t_HANDLERS == sysModules) = false
  tb_HANDLERS : hndOk K a.t_HANDLERS (tab_HANDLERS a) = true
  b_len : mg "len" = none
  b_min : mg "min" = none
  b_max : mg "max" = none
  b_dict : mg "dict" = none
  b_range : mg "range" = none
  b_zip : mg "zip" = none
  b_sorted : mg "sorted" = none
  b_sum : mg "sum" = none
end G
end
section
set_option Elab.async false
set_option linter.all false
set_option maxRecDepth 100000
set_option maxHeartbeats 1000000
namespace G
open PySem PySem.Spec PyProof.Rows L2
open GM (WF MsgOk Srt)
theorem pe_gint {X : Cx} {x : Str} {i : Int} {pos : Pos} (h : ∃ t, X.mg x = some (.int i t)) (hg : Gl X x := by rfl) (hd : (x == ("__debug__" : Str)) = false := by decide) : PE X (.Name x pos) (tC (.int i)) :=
  let ⟨t, e⟩ := h
  pe_glob hg e ⟨t, rfl⟩ hd
/-- all but one thing -/
def But (d : Addr) (H H' : Hp) : Prop := ∀ b o, H b = some o → b ≠ d → H' b = some o
theorem But.upd {H : Hp} {d : Addr} {o : HO} : But d H (upd H d o) := fun b u e hb => by rw [upd_ne hb]; exact e
theorem But.trans {d : Addr} {H H1 H2 : Hp} (a : But d H H1) (b : But d H1 H2) : But d H H2 := fun c o e hc => b c o (a c o e hc) hc
theorem Same.but {d : Addr} {H H' : Hp} (s : Same H H') : But d H H' := fun b o e _ => s b o e
theorem same_new {H : Hp} {p : Addr} {o : HO} (hp : H p = none) : Same H (upd H p o) := fun b u e => by rw [upd_ne (ne_of_none e hp)]; exact e
theorem ite_dec {c : Prop} [Decidable c] {A B : Prop} (h1 : c → A) (h2 : ¬ c → B) : if decide c = true then A else B := by
  by_cases h : c
  · rw [if_pos (by simpa using h)]
    exact h1 h
  · rw [if_neg (by simpa using h)]
    exact h2 h
theorem dT {c : Prop} [Decidable c] {A B : Prop} (h : c) (q : A) : if decide c = true then A else B := by
  rw [if_pos (by simpa using h)]
  exact q
theorem dF {c : Prop} [Decidable c] {A B : Prop} (h : ¬ c) (q : B) : if decide c = true then A else B := by
  rw [if_neg (by simpa using h)]
  exact q
section
variable {P : Program} {w : World} {K : PySem.W.Frag} {mg : Str → Option Value} {base : Heap} {a : Ad}
/-- an amount written -/
def wr (us : List Row) (r : Row) : List Row := if r.amount = 0 then GM.dropU us (GM.key r) else GM.putU us r
theorem wr_perm {us : List Row} {l : Sheet} (p : us.Perm l) (h : Srt l) (r : Row) : (wr us r).Perm (Vbemar.put r l) := by
  unfold wr
  by_cases c : r.amount = 0
  · rw [if_pos c]
    exact GM.dropU_perm p c
  · rw [if_neg c]
    exact GM.putU_perm p h c
def sp_write_amount : Sp := fun vs H Q _ => ∃ (d : Addr) (r : Row) (us : List Row), vs = [.ref d, .int ((r.to : Int) + 1), .int ((r.q : Int) + 1), .int r.amount] ∧ H d = some (.dT (us.map enc)) ∧ us.length ≤ 1000 ∧
  ∀ H' : Hp, But d H H' → H' d = some (.dT ((wr us r).map enc)) → Q .non H'
theorem ok_write_amount (T : Txt K mg a) : FnOk P w K mg base CX0 1 a.f_write_amount a.d_write_amount ["sheet", "other", "quarter", "amount"] sp_write_amount := by
  refine T.write_amount.fn.ok sc_write_amount (fun vs H Q E h => ?_) (fun cdv A outer s H vs Q E hr h => ?_)
  · obtain ⟨d, r, us, rfl, _⟩ := h
    rfl
  · obtain ⟨d, r, us, rfl, hd, hl, k⟩ := h
    have hu := hu_of hr
    refine ⟨_, (pss_one (ps_if (pt_cmpR op_eq (pv 3) pe_int (nomark _)) (pss_one (ps_expr (pe_dpopT hu (pv 0) (pe_tup (pa_cons (pv 1) (pa_cons (pv 2) pa_nil))) pe_non ⟨rfl, rfl, rfl, rfl⟩))) (pss_one (ps_dput hu (pv 0) (pe_tup (pa_cons (pv 1) (pa_cons (pv 2) pa_nil))) (pv 3) rfl)))), ?_⟩
    refine ⟨_, rfl, rfl, _, rfl, ite_dec (fun c => ?_) fun c => ?_⟩
    · have c0 : r.amount = 0 := by injection c
      refine ⟨_, rfl, d, rfl, .inr ⟨_, .inl hd⟩, _, rfl, _, rfl, (by show 2 ≤ sizeLine; decide), fun p hp => ?_⟩
      have sn : Same H (upd H p (.tup [.int ((r.to : Int) + 1), .int ((r.q : Int) + 1)])) := same_new hp
      refine ⟨p, us.map enc, ek r.to r.q, sn d _ hd, rfl, upd_same, fun v hv => ?_, fun hn => ?_⟩
      · refine k _ (But.trans (Same.but sn) But.upd) ?_
        unfold wr
        rw [upd_same, if_pos c0, dropK_enc]
      · refine k _ (Same.but sn) ?_
        unfold wr
        rw [if_pos c0, valV_none hn]
        exact sn d _ hd
    · have c0 : ¬ r.amount = 0 := fun e => c (by rw [e])
      refine ⟨_, rfl, _, rfl, _, rfl, _, rfl, (by show 2 ≤ sizeLine; decide), fun p hp => ?_⟩
      have sn : Same H (upd H p (.tup [.int ((r.to : Int) + 1), .int ((r.q : Int) + 1)])) := same_new hp
      refine ⟨d, _, rfl, DPut.t (k := ek r.to r.q) (sn d _ hd) upd_same (by rw [List.length_map]; exact small1000 hl), ?_⟩
      refine k _ (But.trans (Same.but sn) But.upd) ?_
      unfold wr
      rw [upd_same, if_neg c0, putK_enc]
def sp_read_amount : Sp := fun vs H Q _ => ∃ (d : Addr) (r q : Nat) (us : List Row), vs = [.ref d, .int ((r : Int) + 1), .int ((q : Int) + 1)] ∧ H d = some (.dT (us.map enc)) ∧
  ∀ H' : Hp, Same H H' → Q (.int (Vbemar.amount us r q)) H'
theorem ok_read_amount (T : Txt K mg a) : FnOk P w K mg base CX0 1 a.f_read_amount a.d_read_amount ["sheet", "other", "quarter"] sp_read_amount := by
  refine T.read_amount.fn.ok sc_read_amount (fun vs H Q E h => ?_) (fun cdv A outer s H vs Q E hr h => ?_)
  · obtain ⟨d, r, q, us, rfl, _⟩ := h
    rfl
  · obtain ⟨d, r, q, us, rfl, hd, k⟩ := h
    have hu := hu_of hr
    refine ⟨_, (pss_one (ps_ret (pe_dget2 hu (pv 0) (pe_tup (pa_cons (pv 1) (pa_cons (pv 2) pa_nil))) pe_int ⟨rfl, rfl, rfl, rfl⟩))), ?_⟩
    refine ⟨_, rfl, d, rfl, .inr ⟨_, .inl hd⟩, _, rfl, _, rfl, (by show 2 ≤ sizeLine; decide), fun p hp => ?_⟩
    have sn : Same H (upd H p (.tup [.int ((r : Int) + 1), .int ((q : Int) + 1)])) := same_new hp
    refine ⟨_, DGet.t (k := ek r q) (sn d _ hd) upd_same, ?_⟩
    rw [valV_getD]
    exact k _ sn
def sp_count_rows : Sp := fun vs H Q _ => ∃ (d : Addr) (us : List Row), vs = [.ref d] ∧ H d = some (.dT (us.map enc)) ∧ Q (.int us.length) H
theorem ok_count_rows (T : Txt K mg a) : FnOk P w K mg base CX0 1 a.f_count_rows a.d_count_rows ["sheet"] sp_count_rows := by
  refine T.count_rows.fn.ok sc_count_rows (fun vs H Q E h => ?_) (fun cdv A outer s H vs Q E hr h => ?_)
  · obtain ⟨d, us, rfl, _⟩ := h
    rfl
  · obtain ⟨d, us, rfl, hd, k⟩ := h
    refine ⟨_, (pss_one (ps_ret (pe_callB call_lenT (by rfl) T.b_len PySem.boot_len (pa_cons (pv 0) pa_nil)))), ?_⟩
    refine ⟨_, rfl, d, _, rfl, .inl hd, ?_⟩
    rw [List.length_map]
    exact k
def sp_match_amounts : Sp := fun vs H Q _ => ∃ x y : Int, vs = [.int x, .int y] ∧ Q (.int (Vbemar.matched x y)) H
theorem ok_match_amounts (T : Txt K mg a) : FnOk P w K mg base CX0 1 a.f_match_amounts a.d_match_amounts ["own", "theirs"] sp_match_amounts := by
  refine T.match_amounts.fn.ok sc_match_amounts (fun vs H Q E h => ?_) (fun cdv A outer s H vs Q E hr h => ?_)
  · obtain ⟨x, y, rfl, _⟩ := h
    rfl
  · obtain ⟨x, y, rfl, k⟩ := h
    refine ⟨_, (pss_cons (ps_if (pw_and (pt_cmpR op_gt (pv 0) pe_int (nomark _)) (pw_and1 (pt_cmpR op_lt (pv 1) pe_int (nomark _)))).pt (pss_one (ps_ret (pe_callB (call_min2 rfl) (by rfl) T.b_min boot_min (pa_cons (pv 0) (pa_cons (pe_un un_neg (pv 1)) pa_nil))))) pss_nil) (pss_cons (ps_if (pw_and (pt_cmpR op_lt (pv 0) pe_int (nomark _)) (pw_and1 (pt_cmpR op_gt (pv 1) pe_int (nomark _)))).pt (pss_one (ps_ret (pe_callB (call_max2 rfl) (by rfl) T.b_max boot_max (pa_cons (pv 0) (pa_cons (pe_un un_neg (pv 1)) pa_nil))))) pss_nil) (pss_one (ps_ret pe_int)))), ?_⟩
    by_cases c1 : 0 < x
    · by_cases c2 : y < 0
      · refine ⟨_, rfl, _, _, rfl, rfl, _, rfl, dT c1 ⟨_, rfl, _, _, rfl, rfl, _, rfl, dT c2 ⟨_, rfl, _, rfl, _, rfl, _, _, rfl, ?_⟩⟩⟩
        have e : Vbemar.matched x y = if -y < x then -y else x := by unfold Vbemar.matched; rw [if_pos ⟨c1, c2⟩]; split <;> omega
        rw [e] at k
        exact k
      · refine ⟨_, rfl, _, _, rfl, rfl, _, rfl, dT c1 ⟨_, rfl, _, _, rfl, rfl, _, rfl, dF c2 ⟨_, rfl, _, _, rfl, rfl, _, rfl, dF (show ¬ x < 0 by omega) ?_⟩⟩⟩
        have e : Vbemar.matched x y = 0 := by unfold Vbemar.matched; rw [if_neg (by omega), if_neg (by omega)]
        rw [e] at k
        exact k
    · by_cases c3 : x < 0
      · by_cases c4 : 0 < y
        · refine ⟨_, rfl, _, _, rfl, rfl, _, rfl, dF c1 ⟨_, rfl, _, _, rfl, rfl, _, rfl, dT c3 ⟨_, rfl, _, _, rfl, rfl, _, rfl, dT c4 ⟨_, rfl, _, rfl, _, rfl, _, _, rfl, ?_⟩⟩⟩⟩
          have e : Vbemar.matched x y = if -y > x then -y else x := by unfold Vbemar.matched; rw [if_neg (by omega), if_pos ⟨c3, c4⟩]; split <;> omega
          rw [e] at k
          exact k
        · refine ⟨_, rfl, _, _, rfl, rfl, _, rfl, dF c1 ⟨_, rfl, _, _, rfl, rfl, _, rfl, dT c3 ⟨_, rfl, _, _, rfl, rfl, _, rfl, dF c4 ?_⟩⟩⟩
          have e : Vbemar.matched x y = 0 := by unfold Vbemar.matched; rw [if_neg (by omega), if_neg (by omega)]
          rw [e] at k
          exact k
      · refine ⟨_, rfl, _, _, rfl, rfl, _, rfl, dF c1 ⟨_, rfl, _, _, rfl, rfl, _, rfl, dF c3 ?_⟩⟩
        have e : Vbemar.matched x y = 0 := by unfold Vbemar.matched; rw [if_neg (by omega), if_neg (by omega)]
        rw [e] at k
        exact k
end
end G
end
section
set_option Elab.async false
set_option linter.all false
set_option maxRecDepth 100000
set_option maxHeartbeats 1000000
namespace G
open PySem PySem.Spec PyProof.Rows L2
open GM (WF MsgOk Srt)
theorem few {n : Nat} (h : Nat.ble (n + 1) 1000 = true := by rfl) : n < 1000 := Nat.le_of_ble_eq_true h
theorem line_of_le {n : Nat} (h : n ≤ 1000) : n < sizeLine := small1000 h
section
variable {A : Adr} {H H' : Hp} {t t' : Tg} {m : Addr} {L : Lyt} {N : Net}
theorem ShAt.fm {b : Addr} {l : Sheet} (h : ShAt H t b l) (f : Fm t t' H H') : ShAt H' t' b l := by
  obtain ⟨us, e, g, p⟩ := h
  exact ⟨us, f.old b _ e (.inr g), by rw [f.tag b (live_of e)]; exact g, p⟩
theorem MsAt.fm {b : Addr} {y : Msg} (h : MsAt A H t b y) (f : Fm t t' H H') : MsAt A H' t' b y := by
  obtain ⟨dx, s, e, g, p⟩ := h
  exact ⟨dx, s, f.old b _ e (.inr g), by rw [f.tag b (live_of e)]; exact g, p.fm f⟩
/-- one new thing, marked -/
theorem grow1 (tl : ∀ b, H b = none → t b = none) {p : Addr} {o : HO} {g : Tag} (hp : H p = none) : Grow t (mark t p g) H (upd H p o) ∧ ∀ b, upd H p o b = none → mark t p g b = none := by
  refine ⟨⟨same_new hp, fun b hb => mark_ne fun e => hb (by rw [e]; exact hp)⟩, fun b hb => ?_⟩
  have e : b ≠ p := fun e => by rw [e, upd_same] at hb; cases hb
  rw [mark_ne e]
  rw [upd_ne e] at hb
  exact tl b hb
/-- one new thing without a mark -/
theorem grow0 (tl : ∀ b, H b = none → t b = none) {p : Addr} {o : HO} (hp : H p = none) : Grow t t H (upd H p o) ∧ ∀ b, upd H p o b = none → t b = none :=
  ⟨⟨same_new hp, fun _ _ => rfl⟩, tl_upd tl⟩
/-- more things without marks -/
theorem growS (tl : ∀ b, H b = none → t b = none) (s : Same H H') : Grow t t H H' ∧ ∀ b, H' b = none → t b = none := ⟨⟨s, fun _ _ => rfl⟩, fun b h => tl b (s.free h)⟩
/-- a new instance, behind its __init__ -/
theorem grow_made (tl : ∀ b, H b = none → t b = none) {x dx C : Addr} {g : Tag} {o : HO} (nx : H x = none) (nd : H dx = none) (k : But x (upd (upd H dx (.own x)) x (.ins C dx [])) H') (hx : H' x = some o) :
    Grow t (mark t x g) H H' ∧ ∀ b, H' b = none → mark t x g b = none := by
  have s : Same H H' := Same.made nx nd k
  refine ⟨⟨s, fun b hb => mark_ne fun e => hb (by rw [e]; exact nx)⟩, fun b hb => ?_⟩
  have e : b ≠ x := fun e => by rw [e, hx] at hb; cases hb
  rw [mark_ne e]
  exact tl b (s.free hb)
/-- a message posted -/
theorem Rep.post (r : Rep A H t m L N) {x : Addr} {y : Msg} (hy : MsAt A H t x y) (ok : MsgOk N.parties.length y) (h : N.flying.length < 40) :
    Rep A (upd H L.ml (.lst ((L.ms ++ [x]).map V.ref))) t m { L with ms := L.ms ++ [x] } (Vbemar.post N y) := by
  have e : Vbemar.post N y = { N with flying := N.flying ++ [y] } := by unfold Vbemar.post; rw [if_neg (show ¬ Vbemar.ROOM ≤ N.flying.length from fun z => absurd (show 40 ≤ N.flying.length from z) (by omega))]
  have wf : WF (Vbemar.post N y) := r.wf.post ok
  rw [e] at wf ⊢
  refine r.fly (by rw [List.length_append, List.length_append, r.lm]; rfl) (fun i b z h1 h2 => ?_) wf
  by_cases c : i < L.ms.length
  · rw [List.getElem?_append_left c] at h1
    rw [List.getElem?_append_left (by rw [← r.lm]; exact c)] at h2
    exact r.ms i b z h1 h2
  · have hi : i = L.ms.length := by
      have := (List.getElem?_eq_some_iff.mp h1).1
      rw [List.length_append, List.length_singleton] at this
      omega
    subst hi
    rw [List.getElem?_append_right (Nat.le_refl _), Nat.sub_self] at h1
    rw [r.lm, List.getElem?_append_right (Nat.le_refl _), Nat.sub_self] at h2
    cases h1
    cases h2
    exact hy
theorem post_full {y : Msg} (h : 40 ≤ N.flying.length) : Vbemar.post N y = N := by unfold Vbemar.post; rw [if_pos (show Vbemar.ROOM ≤ N.flying.length from h)]
theorem eraseIdx_get {α : Type} : ∀ (l : List α) (k i : Nat), (l.eraseIdx k)[i]? = if i < k then l[i]? else l[i + 1]?
  | [], k, i => by simp
  | x :: l, 0, i => by simp
  | x :: l, k + 1, 0 => by simp
  | x :: l, k + 1, i + 1 => by
    rw [List.eraseIdx_cons_succ, List.getElem?_cons_succ, List.getElem?_cons_succ, eraseIdx_get l k i]
    by_cases c : i < k
    · rw [if_pos c, if_pos (by omega)]
    · rw [if_neg c, if_neg (by omega), List.getElem?_cons_succ]
theorem Rep.erase (r : Rep A H t m L N) (k : Nat) : Rep A (upd H L.ml (.lst ((L.ms.map V.ref).eraseIdx k))) t m { L with ms := L.ms.eraseIdx k } { N with flying := N.flying.eraseIdx k } := by
  rw [map_eraseIdx]
  have wf : WF { N with flying := N.flying.eraseIdx k } := r.wf.fly (fun x hx => r.wf.fl x (List.mem_of_mem_eraseIdx hx)) (Nat.le_trans (len_erase _ _) r.wf.f40)
  refine r.fly ?_ (fun i b z h1 h2 => ?_) wf
  · rw [List.length_eraseIdx, List.length_eraseIdx, r.lm]
  · rw [eraseIdx_get] at h1 h2
    by_cases c : i < k
    · rw [if_pos c] at h1 h2
      exact r.ms i b z h1 h2
    · rw [if_neg c] at h1 h2
      exact r.ms (i + 1) b z h1 h2
theorem Rep.msAt (r : Rep A H t m L N) {k : Nat} {y : Msg} (h : N.flying[k]? = some y) : ∃ x, L.ms[k]? = some x ∧ MsAt A H t x y := by
  have hk : k < L.ms.length := by rw [r.lm]; exact (List.getElem?_eq_some_iff.mp h).1
  exact ⟨_, List.getElem?_eq_getElem hk, r.ms k _ y (List.getElem?_eq_getElem hk) h⟩
theorem Rep.ptAt (r : Rep A H t m L N) {i : Nat} (h : i < N.parties.length) : ∃ x, L.ps[i]? = some x ∧ PtAt A H t i x (Vbemar.party N i) := by
  have hk : i < L.ps.length := by rw [r.lp]; exact h
  exact ⟨_, List.getElem?_eq_getElem hk, r.pt i _ _ (List.getElem?_eq_getElem hk) (GM.party_at h)⟩
theorem Rep.acAt (r : Rep A H t m L N) {i : Nat} (h : i < N.parties.length) : ∃ x, L.as[i]? = some x ∧ AcAt A H t i x (Vbemar.heldOf N i) := by
  have hk : i < L.as.length := by rw [r.la, r.wf.hl]; exact h
  exact ⟨_, List.getElem?_eq_getElem hk, r.ac i _ _ (List.getElem?_eq_getElem hk) (GM.held_at (by rw [r.wf.hl]; exact h))⟩
end
section
variable {P : Program} {w : World} {K : PySem.W.Frag} {mg : Str → Option Value} {base : Heap} {a : Ad}
def sp_Message_init (a : Ad) : Sp := fun vs H Q _ => ∃ (x dx : Addr) (k p v : Int) (s : V), vs = [.ref x, .int k, .int p, .int v, s] ∧ H x = some (.ins a.cMsg dx []) ∧
  ∀ H' : Hp, But x H H' → H' x = some (.ins a.cMsg dx (mf k p v s)) → Q .non H'
theorem ok_Message_init (T : Txt K mg a) : FnOk P w K mg base CX0 1 a.f_Message_init a.d_Message_init ["self", "kind", "party", "version", "sheet"] (sp_Message_init a) := by
  refine T.Message_init.fn.ok sc_Message_init (fun vs H Q E h => ?_) (fun cdv A outer s H vs Q E hr h => ?_)
  · obtain ⟨x, dx, k, p, v, s, rfl, _⟩ := h
    rfl
  · obtain ⟨x, dx, k, p, v, sh, rfl, hx, kk⟩ := h
    refine ⟨_, (pss_cons (ps_fld (pv 0) (pv 1) rfl) (pss_cons (ps_fld (pv 0) (pv 2) rfl) (pss_cons (ps_fld (pv 0) (pv 3) rfl) (pss_one (ps_fld (pv 0) (pv 4) rfl))))), ?_⟩
    refine ⟨_, rfl, _, rfl, x, _, dx, _, rfl, hx, T.cl_Message, T.na_Message_kind, few, ?_⟩
    refine ⟨_, rfl, _, rfl, x, _, dx, _, rfl, upd_same, T.cl_Message, T.na_Message_party, few, ?_⟩
    refine ⟨_, rfl, _, rfl, x, _, dx, _, rfl, upd_same, T.cl_Message, T.na_Message_version, few, ?_⟩
    refine ⟨_, rfl, _, rfl, x, _, dx, _, rfl, upd_same, T.cl_Message, T.na_Message_sheet, few, ?_⟩
    exact kk _ (((But.upd.trans But.upd).trans But.upd).trans But.upd) upd_same
def sp_Net_init (a : Ad) : Sp := fun vs H Q _ => ∃ (x dx : Addr), vs = [.ref x] ∧ H x = some (.ins a.cNet dx []) ∧
  ∀ (H' : Hp) (l : Addr), But x H H' → H l = none → H' l = some (.lst []) → H' x = some (.ins a.cNet dx (nf l)) → Q .non H'
theorem ok_Net_init (T : Txt K mg a) : FnOk P w K mg base CX0 1 a.f_Net_init a.d_Net_init ["self"] (sp_Net_init a) := by
  refine T.Net_init.fn.ok sc_Net_init (fun vs H Q E h => ?_) (fun cdv A outer s H vs Q E hr h => ?_)
  · obtain ⟨x, dx, rfl, _⟩ := h
    rfl
  · obtain ⟨x, dx, rfl, hx, kk⟩ := h
    refine ⟨_, (pss_one (ps_fld (pv 0) (pe_lst pa_nil) rfl)), ?_⟩
    refine ⟨Nat.zero_le _, fun l hl => ⟨_, rfl, x, _, dx, _, rfl, same_new hl _ _ hx, T.cl_Net, T.na_Net_messages, few, ?_⟩⟩
    exact kk _ l ((Same.but (same_new hl)).trans But.upd) hl (by rw [upd_ne (ne_of_none hx hl).symm]; exact upd_same) upd_same
def sp_under_way (a : Ad) : Sp := fun vs H Q _ => ∃ (t : Tg) (m : Addr) (L : Lyt) (N : Net), vs = [.ref L.nn] ∧ Rep a.toAdr H t m L N ∧ Q (.int N.flying.length) H
theorem ok_Net_under_way (T : Txt K mg a) : FnOk P w K mg base CX0 1 a.f_Net_under_way a.d_Net_under_way ["self"] (sp_under_way a) := by
  refine T.Net_under_way.fn.ok sc_Net_under_way (fun vs H Q E h => ?_) (fun cdv A outer s H vs Q E hr h => ?_)
  · obtain ⟨t, m, L, N, rfl, _⟩ := h
    rfl
  · obtain ⟨t, m, L, N, rfl, r, k⟩ := h
    obtain ⟨dn, hn⟩ := r.nn
    refine ⟨_, (pss_one (ps_ret (pe_callB call_len_seq (by rfl) T.b_len PySem.boot_len (pa_cons (pe_fld (pv 0) rfl) pa_nil)))), ?_⟩
    refine ⟨_, rfl, L.nn, _, dn, _, _, rfl, hn, T.cl_Net, T.na_Net_messages, rfl, L.ml, _, rfl, .inl (SqL.of r.ml), ?_⟩
    rw [List.length_map, r.lm]
    exact k
def sp_full (a : Ad) : Sp := fun vs H Q _ => ∃ (t : Tg) (m : Addr) (L : Lyt) (N : Net), vs = [.ref L.nn] ∧ Rep a.toAdr H t m L N ∧ Q (.bl (decide (40 ≤ N.flying.length))) H
theorem ok_Net_full (T : Txt K mg a) : FnOk P w K mg base CX0 1 a.f_Net_full a.d_Net_full ["self"] (sp_full a) := by
  refine T.Net_full.fn.ok sc_Net_full (fun vs H Q E h => ?_) (fun cdv A outer s H vs Q E hr h => ?_)
  · obtain ⟨t, m, L, N, rfl, _⟩ := h
    rfl
  · obtain ⟨t, m, L, N, rfl, r, k⟩ := h
    obtain ⟨dn, hn⟩ := r.nn
    refine ⟨_, (pss_one (ps_ret (pe_cmpR op_ge (pe_callB call_len_seq (by rfl) T.b_len PySem.boot_len (pa_cons (pe_fld (pv 0) rfl) pa_nil)) (pe_gint T.c_MOST_MESSAGES) (nomark _)))), ?_⟩
    refine ⟨_, rfl, L.nn, _, dn, _, _, rfl, hn, T.cl_Net, T.na_Net_messages, rfl, L.ml, _, rfl, .inl (SqL.of r.ml), _, _, rfl, rfl, ?_⟩
    have e : decide ((40 : Int) ≤ ((L.ms.map V.ref).length : Int)) = decide (40 ≤ N.flying.length) := by
      rw [List.length_map, r.lm]
      exact decide_eq_decide.mpr (by omega)
    show Q (.bl (decide ((40 : Int) ≤ ((L.ms.map V.ref).length : Int)))) H
    rw [e]
    exact k
def sp_post (a : Ad) : Sp := fun vs H Q _ => ∃ (t : Tg) (m : Addr) (L : Lyt) (N : Net) (x : Addr) (y : Msg), vs = [.ref L.nn, .ref x] ∧ Rep a.toAdr H t m L N ∧ MsAt a.toAdr H t x y ∧ MsgOk N.parties.length y ∧
  ∀ (H' : Hp) (ms : List Addr), Rep a.toAdr H' t m { L with ms := ms } (Vbemar.post N y) → Fm t t H H' → Q .non H'
theorem ok_Net_post (T : Txt K mg a) : FnOk P w K mg base CX0 2 a.f_Net_post a.d_Net_post ["self", "message"] (sp_post a) := by
  refine T.Net_post.fn.ok sc_Net_post (fun vs H Q E h => ?_) (fun cdv A outer s H vs Q E hr h => ?_)
  · obtain ⟨t, m, L, N, x, y, rfl, _⟩ := h
    rfl
  · obtain ⟨t, m, L, N, x, y, rfl, r, hy, ok, k⟩ := h
    obtain ⟨dn, hn⟩ := r.nn
    refine ⟨_, (pss_one (ps_if (pt_not (pt_truth (pe_meth0 (pv 0) T.cl_Net T.Net_full.me (ok_Net_full T) (hr.mono (by decide)) T.Net_full.bd .nil pass0) (fun _ => rfl))) (pss_one (ps_expr (pe_bm PySem.F.plainAttrs_list PySem.F.slot_list_append PySem.F.type_list_append mt_append (pe_fld (pv 0) rfl) (pa_cons (pv 1) pa_nil)))) pss_nil)), ?_⟩
    refine ⟨_, rfl, L.nn, dn, _, rfl, hn, rfl, t, m, L, N, rfl, r, _, rfl, ?_⟩
    by_cases c : 40 ≤ N.flying.length
    · rw [decide_eq_true c]
      refine k H L.ms ?_ (Fm.refl _ _)
      rw [post_full c]
      exact r
    · rw [decide_eq_false c]
      refine ⟨_, rfl, L.nn, _, dn, _, _, rfl, hn, T.cl_Net, T.na_Net_messages, rfl, .inl ⟨rfl, _, SqL.of r.ml⟩, _, rfl, L.ml, _, _, rfl, rfl, r.ml, ?_, ?_⟩
      · rw [List.length_map, r.lm]
        exact line_of_le (by omega)
      · have e : L.ms.map V.ref ++ [V.ref x] = (L.ms ++ [x]).map V.ref := by rw [List.map_append]; rfl
        rw [e]
        exact k _ _ (r.post hy ok (by omega)) (Fm.upd (by rw [r.tml]; exact some_ne) (by rw [r.tml]; exact fun e => nomatch e))
def sp_take (a : Ad) : Sp := fun vs H Q _ => ∃ (t : Tg) (m : Addr) (L : Lyt) (N : Net) (j : Nat) (x : Addr), vs = [.ref L.nn, .int ((j : Int) + 1)] ∧ Rep a.toAdr H t m L N ∧ L.ms[j]? = some x ∧
  ∀ (H' : Hp), Rep a.toAdr H' t m { L with ms := L.ms.eraseIdx j } { N with flying := N.flying.eraseIdx j } → Fm t t H H' → Q (.ref x) H'
theorem ok_Net_take (T : Txt K mg a) : FnOk P w K mg base CX0 1 a.f_Net_take a.d_Net_take ["self", "place"] (sp_take a) := by
  refine T.Net_take.fn.ok sc_Net_take (fun vs H Q E h => ?_) (fun cdv A outer s H vs Q E hr h => ?_)
  · obtain ⟨t, m, L, N, j, x, rfl, _⟩ := h
    rfl
  · obtain ⟨t, m, L, N, j, x, rfl, r, hx, k⟩ := h
    obtain ⟨dn, hn⟩ := r.nn
    have hj : j < L.ms.length := (List.getElem?_eq_some_iff.mp hx).1
    have hl : L.ms.length ≤ 40 := by rw [r.lm]; exact r.wf.f40
    refine ⟨_, (pss_one (ps_ret (pe_bm PySem.F.plainAttrs_list PySem.F.slot_list_pop PySem.F.type_list_pop mt_popAt (pe_fld (pv 0) rfl) (pa_cons (pe_op op_sub (pv 1) pe_int) pa_nil)))), ?_⟩
    refine ⟨_, rfl, L.nn, _, dn, _, _, rfl, hn, T.cl_Net, T.na_Net_messages, rfl, .inl ⟨rfl, _, SqL.of r.ml⟩, _, rfl, _, _, rfl, rfl, L.ml, _, _, j, V.ref x, rfl, rfl, r.ml, ?_, ?_, ?_, ?_, ?_⟩
    · omega
    · omega
    · have e : (j : Int) + 1 - 1 = (j : Int) := by omega
      rw [e, List.length_map]
      exact (ixN_seq (show ixN L.ms.length (j : Int) = some j by unfold ixN; rw [if_pos (by omega), if_pos (by omega)]; simp)).1
    · rw [List.getElem?_map, hx]
      rfl
    · exact k _ (r.erase j) (Fm.upd (by rw [r.tml]; exact some_ne) (by rw [r.tml]; exact fun e => nomatch e))
def sp_double (a : Ad) : Sp := fun vs H Q _ => ∃ (t : Tg) (m : Addr) (L : Lyt) (N : Net) (j : Nat) (y : Msg), vs = [.ref L.nn, .int ((j : Int) + 1)] ∧ Rep a.toAdr H t m L N ∧ N.flying[j]? = some y ∧
  ∀ (H' : Hp) (ms : List Addr), Rep a.toAdr H' t m { L with ms := ms } (Vbemar.post N y) → Fm t t H H' → Q .non H'
theorem ok_Net_double (T : Txt K mg a) : FnOk P w K mg base CX0 3 a.f_Net_double a.d_Net_double ["self", "place"] (sp_double a) := by
  refine T.Net_double.fn.ok sc_Net_double (fun vs H Q E h => ?_) (fun cdv A outer s H vs Q E hr h => ?_)
  · obtain ⟨t, m, L, N, j, y, rfl, _⟩ := h
    rfl
  · obtain ⟨t, m, L, N, j, y, rfl, r, hy, k⟩ := h
    obtain ⟨dn, hn⟩ := r.nn
    obtain ⟨x, hx, mx⟩ := r.msAt hy
    have ok : MsgOk N.parties.length y := r.wf.fl y (List.mem_of_getElem? hy)
    refine ⟨_, (pss_one (ps_expr (pe_meth (pv 0) T.cl_Net T.Net_post.me (ok_Net_post T) (hr.mono (by decide)) T.Net_post.bd .nil pass0 (pa_cons (pe_ix ix_list (pe_fld (pv 0) rfl) (pe_op op_sub (pv 1) pe_int) (fun _ _ => rfl)) pa_nil)))), ?_⟩
    refine ⟨_, rfl, L.nn, dn, _, rfl, hn, rfl, _, rfl, L.nn, _, dn, _, _, rfl, hn, T.cl_Net, T.na_Net_messages, rfl, _, rfl, _, _, rfl, rfl, L.ml, _, _, V.ref x, rfl, rfl, SqL.of r.ml, at_of (j := j) (by omega) (by rw [List.getElem?_map, hx]; rfl), ?_⟩
    exact ⟨t, m, L, N, x, y, rfl, r, mx, ok, k⟩
def sp_describe (a : Ad) : Sp := fun vs H Q _ => ∃ (t : Tg) (x : Addr) (y : Msg), vs = [.ref x] ∧ MsAt a.toAdr H t x y ∧ ∀ p, H p = none → Q (.ref p) (upd H p (.lst ((Vbemar.shownMsg y).map V.int)))
theorem shown_msg (y : Msg) : Vbemar.shownMsg y = [kindOf y, (whoOf y : Int) + 1, (verOf y : Int), ((shOf y).length : Int)] := by cases y <;> rfl
theorem ok_describe (T : Txt K mg a) : FnOk P w K mg base CX0 2 a.f_describe a.d_describe ["message"] (sp_describe a) := by
  refine T.describe.fn.ok sc_describe (fun vs H Q E h => ?_) (fun cdv A outer s H vs Q E hr h => ?_)
  · obtain ⟨t, x, y, rfl, _⟩ := h
    rfl
  · obtain ⟨t, x, y, rfl, ⟨dx, sh, hx, tx, us, hs, ts, pu⟩, k⟩ := h
    refine ⟨_, (pss_one (ps_ret (pe_lst (pa_cons (pe_fld (pv 0) rfl) (pa_cons (pe_fld (pv 0) rfl) (pa_cons (pe_fld (pv 0) rfl) (pa_cons (pe_call (ok_count_rows T) (hr.mono (by decide)) (by rfl) T.count_rows.mg T.count_rows.fn.kp T.count_rows.bd .nil pass0 (pa_cons (pe_fld (pv 0) rfl) pa_nil)) pa_nil))))))), ?_⟩
    refine ⟨_, rfl, x, _, dx, _, _, rfl, hx, T.cl_Message, T.na_Message_kind, rfl, _, rfl, x, _, dx, _, _, rfl, hx, T.cl_Message, T.na_Message_party, rfl, _, rfl, x, _, dx, _, _, rfl, hx, T.cl_Message, T.na_Message_version, rfl,
      _, rfl, x, _, dx, _, _, rfl, hx, T.cl_Message, T.na_Message_sheet, rfl, sh, us, rfl, hs, (by show 4 ≤ sizeLine; decide), fun p hp => ?_⟩
    have q := k p hp
    rw [shown_msg, ← pu.length_eq] at q
    exact q
end
end G
end
section
set_option Elab.async false
set_option linter.all false
set_option maxRecDepth 100000
set_option maxHeartbeats 1000000
namespace G
open PySem PySem.Spec PyProof.Rows L2
open GM (WF MsgOk Srt)
section
variable {P : Program} {w : World} {K : PySem.W.Frag} {mg : Str → Option Value} {base : Heap} {a : Ad}
def sp_party_of (a : Ad) : Sp := fun vs H Q _ => ∃ (t : Tg) (m : Addr) (L : Lyt) (N : Net) (i : Nat) (x : Addr), vs = [.ref m, .int ((i : Int) + 1)] ∧ Rep a.toAdr H t m L N ∧ L.ps[i]? = some x ∧ Q (.ref x) H
theorem ok_Market_party_of (T : Txt K mg a) : FnOk P w K mg base CX0 1 a.f_Market_party_of a.d_Market_party_of ["self", "number"] (sp_party_of a) := by
  refine T.Market_party_of.fn.ok sc_Market_party_of (fun vs H Q E h => ?_) (fun cdv A outer s H vs Q E hr h => ?_)
  · obtain ⟨t, m, L, N, i, x, rfl, _⟩ := h
    rfl
  · obtain ⟨t, m, L, N, i, x, rfl, r, hx, k⟩ := h
    obtain ⟨dm, hm⟩ := r.mkt
    refine ⟨_, (pss_one (ps_ret (pe_ix ix_list (pe_fld (pv 0) rfl) (pe_op op_sub (pv 1) pe_int) (fun _ _ => rfl)))), ?_⟩
    exact ⟨_, rfl, m, _, dm, _, _, rfl, hm, T.cl_Market, T.na_Market_parties, rfl, _, rfl, _, _, rfl, rfl, L.pl, _, _, V.ref x, rfl, rfl, SqL.of r.pl, at_of (j := i) (by omega) (by rw [List.getElem?_map, hx]; rfl), k⟩
def sp_account_of (a : Ad) : Sp := fun vs H Q _ => ∃ (t : Tg) (m : Addr) (L : Lyt) (N : Net) (i : Nat) (x : Addr), vs = [.ref m, .int ((i : Int) + 1)] ∧ Rep a.toAdr H t m L N ∧ L.as[i]? = some x ∧ Q (.ref x) H
theorem ok_Market_account_of (T : Txt K mg a) : FnOk P w K mg base CX0 1 a.f_Market_account_of a.d_Market_account_of ["self", "number"] (sp_account_of a) := by
  refine T.Market_account_of.fn.ok sc_Market_account_of (fun vs H Q E h => ?_) (fun cdv A outer s H vs Q E hr h => ?_)
  · obtain ⟨t, m, L, N, i, x, rfl, _⟩ := h
    rfl
  · obtain ⟨t, m, L, N, i, x, rfl, r, hx, k⟩ := h
    obtain ⟨dm, hm⟩ := r.mkt
    refine ⟨_, (pss_one (ps_ret (pe_ix ix_list (pe_fld (pv 0) rfl) (pe_op op_sub (pv 1) pe_int) (fun _ _ => rfl)))), ?_⟩
    exact ⟨_, rfl, m, _, dm, _, _, rfl, hm, T.cl_Market, T.na_Market_accounts, rfl, _, rfl, _, _, rfl, rfl, L.al, _, _, V.ref x, rfl, rfl, SqL.of r.al, at_of (j := i) (by omega) (by rw [List.getElem?_map, hx]; rfl), k⟩
theorem wr_new {us : List Row} {r : Row} (h : ∀ x ∈ us, GM.key x ≠ GM.key r) : wr us r = if r.amount = 0 then us else us ++ [r] := by
  have e : us.any (fun x => decide (GM.key x = GM.key r)) = false := by
    rw [List.any_eq_false]
    intro x hx
    simpa using h x hx
  unfold wr
  by_cases c : r.amount = 0
  · rw [if_pos c, if_pos c, GM.dropU_none e]
  · rw [if_neg c, if_neg c]
    unfold GM.putU
    rw [e]
    rfl
theorem wr_mall (N : Net) (p i j : Nat) : wr (GM.mall N p i ++ GM.mrow N p i j) { to := i, q := j, amount := GM.mt N p i j } = GM.mall N p i ++ GM.mrow N p i (j + 1) := by
  rw [wr_new, GM.mrow_succ]
  · by_cases c : GM.mt N p i j = 0
    · rw [if_pos c, if_pos c, List.append_nil]
    · rw [if_neg c, if_neg c, List.append_assoc]
  · intro x hx e
    have e1 : x.to = i := congrArg Prod.fst e
    have e2 : x.q = j := congrArg Prod.snd e
    rcases List.mem_append.mp hx with hx | hx
    · have := (GM.mall_mem hx).1
      omega
    · have := (GM.mrow_mem hx).2.1
      omega
theorem mall_len (N : Net) (p : Nat) (hq : N.quarters ≤ 3) : ∀ i j, j ≤ 3 → (GM.mall N p i).length ≤ 3 * i ∧ (GM.mrow N p i j).length ≤ 3 := by
  have row : ∀ i j, (GM.mrow N p i j).length ≤ j := fun i j => by
    unfold GM.mrow
    refine Nat.le_trans (List.length_filterMap_le _ _) ?_
    rw [List.length_range]
    exact Nat.le_refl _
  intro i j hj
  refine ⟨?_, Nat.le_trans (row i j) hj⟩
  induction i with
  | zero => exact Nat.le_refl _
  | succ i ih =>
    rw [GM.mall_succ, List.length_append]
    have := row i N.quarters
    omega
def sp_held_amount (a : Ad) : Sp := fun vs H Q _ => ∃ (t : Tg) (m : Addr) (L : Lyt) (N : Net) (i j z : Nat), vs = [.ref m, .int ((i : Int) + 1), .int ((j : Int) + 1), .int ((z : Int) + 1)] ∧ Rep a.toAdr H t m L N ∧ i < N.parties.length ∧
  ∀ H' : Hp, Same H H' → Q (.int (Vbemar.amount (Vbemar.heldOf N i).sheet j z)) H'
theorem ok_held_amount (T : Txt K mg a) : FnOk P w K mg base CX0 2 a.f_held_amount a.d_held_amount ["market", "number", "other", "quarter"] (sp_held_amount a) := by
  refine T.held_amount.fn.ok sc_held_amount (fun vs H Q E h => ?_) (fun cdv A outer s H vs Q E hr h => ?_)
  · obtain ⟨t, m, L, N, i, j, z, rfl, _⟩ := h
    rfl
  · obtain ⟨t, m, L, N, i, j, z, rfl, r, hi, k⟩ := h
    obtain ⟨dm, hm⟩ := r.mkt
    obtain ⟨x, hx, dx, so, hxa, tx, us, hus, tus, pus⟩ := r.acAt hi
    refine ⟨_, (pss_one (ps_ret (pe_call (ok_read_amount T) (hr.mono (by decide)) (by rfl) T.read_amount.mg T.read_amount.fn.kp T.read_amount.bd .nil pass0 (pa_cons (pe_fld (pe_meth (pv 0) T.cl_Market T.Market_account_of.me (ok_Market_account_of T) (hr.mono (by decide)) T.Market_account_of.bd .nil pass0 (pa_cons (pv 1) pa_nil)) rfl) (pa_cons (pv 2) (pa_cons (pv 3) pa_nil)))))), ?_⟩
    refine ⟨_, rfl, m, dm, _, rfl, hm, rfl, _, rfl, t, m, L, N, i, x, rfl, r, hx, x, _, dx, _, _, rfl, hxa, T.cl_Account, T.na_Account_sheet, rfl, _, rfl, _, rfl, so, j, z, us, rfl, hus, fun H1 s1 => ?_⟩
    have e1 : Vbemar.amount us j z = Vbemar.amount (Vbemar.heldOf N i).sheet j z := GM.amount_perm pus (r.wf.ho i _ (GM.held_at (by rw [r.wf.hl]; exact hi))).srt.kn j z
    rw [e1]
    exact k H1 s1
def sp_matched_sheet (a : Ad) : Sp := fun vs H Q _ => ∃ (t : Tg) (m : Addr) (L : Lyt) (N : Net) (i : Nat), vs = [.ref m, .int ((i : Int) + 1)] ∧ Rep a.toAdr H t m L N ∧ i < N.parties.length ∧
  ∀ (H' : Hp) (d : Addr), Same H H' → H d = none → H' d = some (.dT ((GM.mall N i N.parties.length).map enc)) → Q (.ref d) H'
theorem ok_matched_sheet (T : Txt K mg a) : FnOk P w K mg base CX0 3 a.f_matched_sheet a.d_matched_sheet ["market", "number"] (sp_matched_sheet a) := by
  refine T.matched_sheet.fn.ok sc_matched_sheet (fun vs H Q E h => ?_) (fun cdv A outer s H vs Q E hr h => ?_)
  · obtain ⟨t, m, L, N, i, rfl, _⟩ := h
    rfl
  · obtain ⟨t, m, L, N, i, rfl, r, hi, k⟩ := h
    obtain ⟨dm, hm⟩ := r.mkt
    have hn4 := r.wf.n4
    have hq3 := r.wf.q3
    refine ⟨_, (pss_cons (ps_set (i := 2) sc_matched_sheet.nd rfl (Or.inl rfl) pe_dnewT) (pss_cons (ps_for PassesOwn.never rfl (pi_range2 (by rfl) T.b_range (pa_cons pe_int (pa_cons (pe_op op_add (pe_fld (pv 0) rfl) pe_int) pa_nil))) (pg_name (i := 3) sc_matched_sheet.nd rfl (Or.inl rfl)) (pss_one (ps_for PassesOwn.never rfl (pi_range2 (by rfl) T.b_range (pa_cons pe_int (pa_cons (pe_op op_add (pe_fld (pv 0) rfl) pe_int) pa_nil))) (pg_name (i := 4) sc_matched_sheet.nd rfl (Or.inl rfl)) (pss_cons (ps_set (i := 5) sc_matched_sheet.nd rfl (Or.inl rfl) (pe_call (ok_held_amount T) (hr.mono (by decide)) (by rfl) T.held_amount.mg T.held_amount.fn.kp T.held_amount.bd .nil pass0 (pa_cons (pv 0) (pa_cons (pv 1) (pa_cons (pv 3) (pa_cons (pv 4) pa_nil)))))) (pss_cons (ps_set (i := 6) sc_matched_sheet.nd rfl (Or.inl rfl) (pe_call (ok_held_amount T) (hr.mono (by decide)) (by rfl) T.held_amount.mg T.held_amount.fn.kp T.held_amount.bd .nil pass0 (pa_cons (pv 0) (pa_cons (pv 3) (pa_cons (pv 1) (pa_cons (pv 4) pa_nil)))))) (pss_one (ps_expr (pe_call (ok_write_amount T) (hr.mono (by decide)) (by rfl) T.write_amount.mg T.write_amount.fn.kp T.write_amount.bd .nil pass0 (pa_cons (pv 2) (pa_cons (pv 3) (pa_cons (pv 4) (pa_cons (pe_call (ok_match_amounts T) (hr.mono (by decide)) (by rfl) T.match_amounts.mg T.match_amounts.fn.kp T.match_amounts.bd .nil pass0 (pa_cons (pv 5) (pa_cons (pv 6) pa_nil))) pa_nil)))))))))))) (pss_one (ps_ret (pv 2))))), ?_⟩
    intro d hd
    have s0 : Same H (upd H d (.dT [])) := same_new hd
    refine ⟨_, rfl, m, _, dm, _, _, rfl, s0 _ _ hm, T.cl_Market, T.na_Market_party_count, rfl, _, _, rfl, rfl, 1, (N.parties.length : Int) + 1, rfl, ⟨by omega, by omega, by omega, by omega⟩, ?_⟩
    rw [show ((N.parties.length : Int) + 1 - 1).toNat = N.parties.length by omega]
    refine for_range (lo := 1) (n := N.parties.length) (fun j σ H' => ∃ v3 v4 v5 v6 : Option V, σ = [some (.ref m), some (.int ((i : Int) + 1)), some (.ref d), v3, v4, v5, v6] ∧ Same H H' ∧ H' d = some (.dT ((GM.mall N i j).map enc)))
      ⟨none, none, none, none, rfl, s0, upd_same⟩ ?_ ?_
    · rintro j σ H1 hj ⟨v3, v4, v5, v6, rfl, s1, h1⟩
      have ej : (1 : Int) + (j : Int) = (j : Int) + 1 := Int.add_comm _ _
      rw [ej]
      refine ⟨_, rfl, m, _, dm, _, _, rfl, s1 _ _ hm, T.cl_Market, T.na_Market_quarter_count, rfl, _, _, rfl, rfl, 1, (N.quarters : Int) + 1, rfl, ⟨by omega, by omega, by omega, by omega⟩, ?_⟩
      rw [show ((N.quarters : Int) + 1 - 1).toNat = N.quarters by omega]
      refine for_range (lo := 1) (n := N.quarters) (fun q σ H' => ∃ v4 v5 v6 : Option V, σ = [some (.ref m), some (.int ((i : Int) + 1)), some (.ref d), some (.int ((j : Int) + 1)), v4, v5, v6] ∧ Same H H' ∧
          H' d = some (.dT ((GM.mall N i j ++ GM.mrow N i j q).map enc)))
        ⟨v4, v5, v6, rfl, s1, by rw [h1]; exact congrArg (fun z => some (HO.dT z)) (by show _ = (GM.mall N i j ++ []).map enc; rw [List.append_nil])⟩ ?_ ?_
      · rintro q σ H2 hq ⟨v4, v5, v6, rfl, s2, h2⟩
        have eq : (1 : Int) + (q : Int) = (q : Int) + 1 := Int.add_comm _ _
        rw [eq]
        have r2 : Rep a.toAdr H2 t m L N := r.grow (growS r.tl s2).1 (growS r.tl s2).2
        refine ⟨_, rfl, _, rfl, _, rfl, _, rfl, t, m, L, N, i, j, q, rfl, r2, hi, fun H3 s3 => ?_⟩
        have r3 : Rep a.toAdr H3 t m L N := r2.grow (growS r2.tl s3).1 (growS r2.tl s3).2
        refine ⟨_, rfl, _, rfl, _, rfl, _, rfl, t, m, L, N, j, i, q, rfl, r3, hj, fun H4 s4 => ?_⟩
        refine ⟨_, rfl, _, rfl, _, rfl, _, rfl, _, rfl, _, _, rfl, d, { to := j, q := q, amount := GM.mt N i j q }, GM.mall N i j ++ GM.mrow N i j q, rfl, s4 _ _ (s3 _ _ h2), ?_, fun H5 b5 h5 => ?_⟩
        · have := mall_len N i hq3 j q (by omega)
          rw [List.length_append]
          omega
        · rw [wr_mall] at h5
          refine ⟨_, _, _, rfl, fun b o e => ?_, h5⟩
          have e' : b ≠ d := fun z => by rw [z, hd] at e; cases e
          exact b5 b o (s4 _ _ (s3 _ _ (s2 _ _ e))) e'
      · rintro σ H2 ⟨v4, v5, v6, rfl, s2, h2⟩
        refine ⟨_, _, _, _, rfl, s2, ?_⟩
        rw [GM.mall_succ]
        exact h2
    · rintro σ H1 ⟨v3, v4, v5, v6, rfl, s1, h1⟩
      exact ⟨_, rfl, k H1 d s1 hd h1⟩
end
end G
end
section
set_option Elab.async false
set_option linter.all false
set_option maxRecDepth 100000
set_option maxHeartbeats 1000000
namespace G
open PySem PySem.Spec PyProof.Rows L2
open GM (WF MsgOk Srt)
theorem ne_int {i j : Int} (h : i ≠ j) : ¬ V.int i = V.int j := fun e => h (by injection e)
theorem upd_comm {H : Hp} {x p : Addr} {o u : HO} (h : p ≠ x) : upd (upd H x o) p u = upd (upd H p u) x o := by
  funext b
  by_cases e : b = p
  · subst e
    rw [upd_same, upd_ne h, upd_same]
  · rw [upd_ne e]
    by_cases e2 : b = x
    · subst e2
      rw [upd_same, upd_same]
    · rw [upd_ne e2, upd_ne e2, upd_ne e]
section
variable {A : Adr} {H H' H2 : Hp} {t t' : Tg} {m : Addr} {L : Lyt} {N : Net}
/-- a new message behind its __init__ -/
theorem Rep.newMsg (r : Rep A H t m L N) {y dy s : Addr} {z : Msg} (ny : H y = none) (nd : H dy = none) (b2 : But y (upd (upd H dy (.own y)) y (.ins A.cMsg dy [])) H2)
    (h2 : H2 y = some (.ins A.cMsg dy (mf (kindOf z) ((whoOf z : Int) + 1) (verOf z) (.ref s)))) (hs : ShAt H t s (shOf z)) :
    Rep A H2 (mark t y .fix) m L N ∧ MsAt A H2 (mark t y .fix) y z ∧ Fm t (mark t y .fix) H H2 := by
  obtain ⟨g, tl⟩ := grow_made (g := .fix) r.tl ny nd b2 h2
  exact ⟨r.grow g tl, ⟨dy, s, h2, mark_same, hs.grow g⟩, g.fm⟩
/-- a new empty sheet -/
theorem Rep.newSheet (r : Rep A H t m L N) {p : Addr} (hp : H p = none) : Rep A (upd H p (.dT [])) (mark t p .fix) m L N ∧ ShAt (upd H p (.dT [])) (mark t p .fix) p [] ∧ Fm t (mark t p .fix) H (upd H p (.dT [])) := by
  obtain ⟨g, tl⟩ := grow1 (g := .fix) (o := .dT []) r.tl hp
  exact ⟨r.grow g tl, ⟨[], upd_same, mark_same, .refl _⟩, g.fm⟩
end
section
variable {P : Program} {w : World} {K : PySem.W.Frag} {mg : Str → Option Value} {base : Heap} {a : Ad}
/-- the last step of market.net.post(Message(..)), its arguments read -/
theorem fin_post {H4 : Hp} {Q : VK} {t4 : Tg} {m sh : Addr} {L : Lyt} {N : Net} (z : Msg) (r4 : Rep a.toAdr H4 t4 m L N) (hs : ShAt H4 t4 sh (shOf z)) (ok : MsgOk N.parties.length z)
    (k : ∀ (H' : Hp) (t' : Tg) (ms : List Addr), Rep a.toAdr H' t' m { L with ms := ms } (Vbemar.post N z) → Fm t4 t' H4 H' → Q .non H') :
    ∀ y dy, H4 y = none → H4 dy = none → dy ≠ y → sp_Message_init a (.ref y :: ([.int (kindOf z), .int ((whoOf z : Int) + 1), .int (verOf z), .ref sh] ++ [])) (upd (upd H4 dy (.own y)) y (.ins a.cMsg dy []))
      (fun v H2 => v = .non ∧ sp_post a (.ref L.nn :: ([.ref y] ++ [])) H2 Q E0) E0 := by
  intro y dy ny nd ne
  refine ⟨y, dy, _, _, _, _, rfl, upd_same, fun H2 b2 h2 => ⟨rfl, ?_⟩⟩
  obtain ⟨r2, m2, f2⟩ := r4.newMsg (z := z) ny nd b2 h2 hs
  exact ⟨_, m, L, N, y, _, rfl, r2, m2, ok, fun H' ms r' f' => k H' _ ms r' (f2.trans f')⟩
def sp_post_sent (a : Ad) : Sp := fun vs H Q _ => ∃ (t : Tg) (m : Addr) (L : Lyt) (N : Net) (i : Nat), vs = [.ref m, .int ((i : Int) + 1)] ∧ Rep a.toAdr H t m L N ∧ i < N.parties.length ∧
  ∀ (H' : Hp) (t' : Tg) (ms : List Addr), Rep a.toAdr H' t' m { L with ms := ms } (Vbemar.post N (.doc i (Vbemar.party N i).version (Vbemar.party N i).sent)) → Fm t t' H H' → Q .non H'
theorem ok_post_sent_sheet (T : Txt K mg a) : FnOk P w K mg base CX0 3 a.f_post_sent_sheet a.d_post_sent_sheet ["market", "number"] (sp_post_sent a) := by
  refine T.post_sent_sheet.fn.ok sc_post_sent_sheet (fun vs H Q E h => ?_) (fun cdv A outer s H vs Q E hr h => ?_)
  · obtain ⟨t, m, L, N, i, rfl, _⟩ := h
    rfl
  · obtain ⟨t, m, L, N, i, rfl, r, hi, k⟩ := h
    have hr1 : Room 1 _ := hr.mono (by decide)
    obtain ⟨dm, hm⟩ := r.mkt
    obtain ⟨dn, hn⟩ := r.nn
    obtain ⟨x, hx, dx, d, sn, b, hxp, tx, hd, hs, hb⟩ := r.ptAt hi
    refine ⟨_, (pss_cons (ps_set (i := 2) sc_post_sent_sheet.nd rfl (Or.inl rfl) (pe_meth (pv 0) T.cl_Market T.Market_party_of.me (ok_Market_party_of T) (hr.mono (by decide)) T.Market_party_of.bd .nil pass0 (pa_cons (pv 1) pa_nil))) (pss_one (ps_expr (pe_meth (pe_fld (pv 0) rfl) T.cl_Net T.Net_post.me (ok_Net_post T) (hr.mono (by decide)) T.Net_post.bd .nil pass0 (pa_cons (pe_make T.Message_init.maker (ok_Message_init T) (hr.mono (by decide)) (by rfl) T.mg_Message T.Message_init.bd .nil pass0 (pa_cons (pe_gint T.c_KIND_SHEET) (pa_cons (pv 1) (pa_cons (pe_fld (pv 2) rfl) (pa_cons (pe_fld (pv 2) rfl) pa_nil))))) pa_nil))))), ?_⟩
    refine ⟨_, rfl, m, dm, _, rfl, hm, rfl, _, rfl, t, m, L, N, i, x, rfl, r, hx, ?_⟩
    exact ⟨_, rfl, m, _, dm, _, _, rfl, hm, T.cl_Market, T.na_Market_net, rfl, L.nn, dn, _, rfl, hn, rfl, _, rfl, _, rfl, x, _, dx, _, _, rfl, hxp, T.cl_Party, T.na_Party_version, rfl, _, rfl, x, _, dx, _, _, rfl, hxp, T.cl_Party, T.na_Party_sent, rfl,
      fin_post (.doc i (Vbemar.party N i).version (Vbemar.party N i).sent) r hs ⟨hi, (r.wf.po i _ (GM.party_at hi)).sent⟩ k⟩
def hh (r q : Nat) : Int := reduceHash (Builtin.Tuple.tupleHashOf [hashInt ((r : Int) + 1), hashInt ((q : Int) + 1)])
def htab : Nat → Nat → Int
  | 0, 0 => 8389048192121911274
  | 0, 1 => -3550055125485641917
  | 0, 2 => -1440771752368011620
  | 1, 0 => 6794810172467074373
  | 1, 1 => 1901736143494378007
  | 1, 2 => 8409376899596376432
  | 2, 0 => 8756109708711196808
  | 2, 1 => 3863035679738500442
  | 2, 2 => 5972319052856130739
  | 3, 0 => 159514286966033244
  | 3, 1 => -9131917124991031250
  | 3, 2 => -2624276368889032825
  | _, _ => 0
theorem hh_00 : hh 0 0 = 8389048192121911274 := by decide +kernel
theorem hh_01 : hh 0 1 = -3550055125485641917 := by decide +kernel
theorem hh_02 : hh 0 2 = -1440771752368011620 := by decide +kernel
theorem hh_10 : hh 1 0 = 6794810172467074373 := by decide +kernel
theorem hh_11 : hh 1 1 = 1901736143494378007 := by decide +kernel
theorem hh_12 : hh 1 2 = 8409376899596376432 := by decide +kernel
theorem hh_20 : hh 2 0 = 8756109708711196808 := by decide +kernel
theorem hh_21 : hh 2 1 = 3863035679738500442 := by decide +kernel
theorem hh_22 : hh 2 2 = 5972319052856130739 := by decide +kernel
theorem hh_30 : hh 3 0 = 159514286966033244 := by decide +kernel
theorem hh_31 : hh 3 1 = -9131917124991031250 := by decide +kernel
theorem hh_32 : hh 3 2 = -2624276368889032825 := by decide +kernel
theorem hh_eq : ∀ {r q : Nat}, r < 4 → q < 3 → hh r q = htab r q
  | 0, 0, _, _ => hh_00
  | 0, 1, _, _ => hh_01
  | 0, 2, _, _ => hh_02
  | 1, 0, _, _ => hh_10
  | 1, 1, _, _ => hh_11
  | 1, 2, _, _ => hh_12
  | 2, 0, _, _ => hh_20
  | 2, 1, _, _ => hh_21
  | 2, 2, _, _ => hh_22
  | 3, 0, _, _ => hh_30
  | 3, 1, _, _ => hh_31
  | 3, 2, _, _ => hh_32
  | r + 4, _, h, _ => by omega
  | _, q + 3, _, h => by omega
theorem htab_inj : ∀ r q r' q' : _root_.Fin 4, q.1 < 3 → q'.1 < 3 → htab r.1 q.1 = htab r'.1 q'.1 → r = r' ∧ q = q' := by decide +kernel
theorem hash_ek (P : Program) (w : World) (r q : Nat) : hashT P w (ek r q) = hh r q := by
  show tupleKeyHash (mixKind P w) (ek r q) = hh r q
  unfold tupleKeyHash hh ek
  rw [List.map_cons, List.map_cons, List.map_nil]
  rfl
theorem hash_inj (P : Program) (w : World) {r q r' q' : Nat} (b1 : r < 4) (b2 : q < 3) (b3 : r' < 4) (b4 : q' < 3) (e : hashT P w (ek r q) = hashT P w (ek r' q')) : r = r' ∧ q = q' := by
  have e1 : htab r q = htab r' q' := ((hh_eq b1 b2).symm.trans ((hash_ek P w r q).symm.trans e)).trans ((hash_ek P w r' q').trans (hh_eq b3 b4))
  obtain ⟨q1, q2⟩ := htab_inj ⟨r, b1⟩ ⟨q, by omega⟩ ⟨r', b3⟩ ⟨q', by omega⟩ b2 b4 e1
  exact ⟨congrArg (fun z : _root_.Fin 4 => z.1) q1, congrArg (fun z : _root_.Fin 4 => z.1) q2⟩
theorem map_nd {α β : Type} {f : α → β} : ∀ {l : List α}, (∀ x ∈ l, ∀ y ∈ l, f x = f y → x = y) → l.Nodup → (l.map f).Nodup
  | [], _, _ => List.nodup_nil
  | x :: l, h, n => by
    rw [List.nodup_cons] at n
    rw [List.map_cons, List.nodup_cons]
    refine ⟨fun hm => ?_, map_nd (fun a ha b hb => h a (List.mem_cons_of_mem _ ha) b (List.mem_cons_of_mem _ hb)) n.2⟩
    obtain ⟨y, hy, e⟩ := List.mem_map.mp hm
    exact n.1 (h y (List.mem_cons_of_mem _ hy) x List.mem_cons_self e ▸ hy)
theorem hash_rows (P : Program) (w : World) {us : List Row} (hk : GM.KN us) (hb : ∀ r ∈ us, r.to < 4 ∧ r.q < 3) : ((us.map enc).map fun kv => hashT P w kv.1).Nodup := by
  have hn : (us.map enc).Nodup := by
    refine map_nd (fun x hx y hy e => ?_) ?_
    · have e1 : ek x.to x.q = ek y.to y.q := congrArg Prod.fst e
      exact hk.uniq hx hy (ek_key.mp e1)
    · unfold GM.KN List.Nodup at hk
      exact (List.pairwise_map.mp hk).imp fun h e => h (by rw [e])
  refine map_nd (fun kx hx ky hy e => ?_) hn
  obtain ⟨x, hx', rfl⟩ := List.mem_map.mp hx
  obtain ⟨y, hy', rfl⟩ := List.mem_map.mp hy
  obtain ⟨b1, b2⟩ := hb x hx'
  obtain ⟨b3, b4⟩ := hb y hy'
  obtain ⟨q1, q2⟩ := hash_inj P w b1 b2 b3 b4 e
  have ek : GM.key x = GM.key y := Prod.ext q1 q2
  rw [hk.uniq hx' hy' ek]
def sent1 (y : Party) : Party := { y with sent := y.draft, version := y.version + 1, waits := true, tooLate := false }
def sp_send (a : Ad) : Sp := fun vs H Q _ => ∃ (t : Tg) (m : Addr) (L : Lyt) (N : Net) (i : Nat), vs = [.ref m, .int ((i : Int) + 1)] ∧ Rep a.toAdr H t m L N ∧ i < N.parties.length ∧
  ∀ (H' : Hp) (t' : Tg) (ms : List Addr), Rep a.toAdr H' t' m { L with ms := ms } (Vbemar.post (Vbemar.setParty N i sent1) (.doc i (Vbemar.party (Vbemar.setParty N i sent1) i).version (Vbemar.party (Vbemar.setParty N i sent1) i).sent)) → Fm t t' H H' → Q .non H'
theorem ok_send (T : Txt K mg a) : FnOk P w K mg base CX0 4 a.f_send a.d_send ["market", "number"] (sp_send a) := by
  refine T.send.fn.ok sc_send (fun vs H Q E h => ?_) (fun cdv A outer s H vs Q E hr h => ?_)
  · obtain ⟨t, m, L, N, i, rfl, _⟩ := h
    rfl
  · obtain ⟨t, m, L, N, i, rfl, r, hi, k⟩ := h
    have hr1 : Room 1 _ := hr.mono (by decide)
    obtain ⟨dm, hm⟩ := r.mkt
    obtain ⟨x, hx, dx, d, sn, b, hxp, tx, ⟨us, hus, tus, pus⟩, hs, hb⟩ := r.ptAt hi
    have po := r.wf.po i _ (GM.party_at hi)
    refine ⟨_, (pss_cons (ps_set (i := 2) sc_send.nd rfl (Or.inl rfl) (pe_meth (pv 0) T.cl_Market T.Market_party_of.me (ok_Market_party_of T) (hr.mono (by decide)) T.Market_party_of.bd .nil pass0 (pa_cons (pv 1) pa_nil))) (pss_cons (ps_fld (pv 2) (pe_op op_add (pe_fld (pv 2) rfl) pe_int) rfl) (pss_cons (ps_fld (pv 2) (pe_callTy call_dictT (by rfl) T.b_dict PySem.Pv.boot_dict (pa_cons (pe_fld (pv 2) rfl) pa_nil)) rfl) (pss_cons (ps_fld (pv 2) pe_bl rfl) (pss_cons (ps_fld (pv 2) pe_bl rfl) (pss_one (ps_expr (pe_call (ok_post_sent_sheet T) (hr.mono (by decide)) (by rfl) T.post_sent_sheet.mg T.post_sent_sheet.fn.kp T.post_sent_sheet.bd .nil pass0 (pa_cons (pv 0) (pa_cons (pv 1) pa_nil)))))))))), ?_⟩
    refine ⟨_, rfl, m, dm, _, rfl, hm, rfl, _, rfl, t, m, L, N, i, x, rfl, r, hx, ?_⟩
    refine ⟨_, rfl, x, _, dx, _, _, rfl, hxp, T.cl_Party, T.na_Party_version, rfl, _, _, rfl, rfl, _, rfl, x, _, dx, _, rfl, hxp, T.cl_Party, T.na_Party_version, few, ?_⟩
    have ndx : d ≠ x := ne_of hus hxp (fun e => nomatch e)
    refine ⟨_, rfl, x, _, dx, _, _, rfl, upd_same, T.cl_Party, T.na_Party_draft, rfl, d, us.map enc, rfl, .inl (by rw [upd_ne ndx]; exact hus), ?_, fun p hp => ?_⟩
    · exact hash_rows _ _ (po.draft.srt.kn.perm pus) fun r hr => po.draft.srt.bd r (pus.mem_iff.mp hr)
    have npx : p ≠ x := fun e => by rw [e, upd_same] at hp; cases hp
    have hp0 : H p = none := by rw [upd_ne npx] at hp; exact hp
    refine ⟨_, rfl, x, _, dx, _, rfl, (by rw [upd_ne npx.symm]; exact upd_same), T.cl_Party, T.na_Party_sent, few, ?_⟩
    refine ⟨_, rfl, x, _, dx, _, rfl, upd_same, T.cl_Party, T.na_Party_waits, few, ?_⟩
    refine ⟨_, rfl, x, _, dx, _, rfl, upd_same, T.cl_Party, T.na_Party_too_late, few, ?_⟩
    rw [upd_upd, upd_upd, upd_comm npx, upd_upd]
    obtain ⟨g, tl⟩ := grow1 (g := .fix) (o := .dT (us.map enc)) r.tl hp0
    have r1 := r.grow g tl
    have hpx : L.ps[i]? = some x := hx
    have r2 : Rep a.toAdr (upd (upd H p (.dT (us.map enc))) x (.ins a.cPty dx (pf d p ((Vbemar.party N i).version + 1 : Nat) (Vbemar.party N i).acked true false b))) (mark t p .fix) m L (Vbemar.setParty N i sent1) := by
      refine r1.party hpx (GM.party_at hi) ⟨dx, d, p, b, upd_same, ?_, ⟨us, ?_, ?_, pus⟩, ⟨us, ?_, mark_same, pus⟩, ?_⟩ ⟨po.draft, po.draft, po.final⟩
      · rw [mark_ne npx.symm]
        exact tx
      · rw [upd_ne ndx]
        exact same_new hp0 _ _ hus
      · rw [mark_ne (ne_of_none hus hp0)]
        exact tus
      · rw [upd_ne npx]
        exact upd_same
      · have f : Off (some (.pty i)) (mark t p .fix) (upd H p (.dT (us.map enc))) (upd (upd H p (.dT (us.map enc))) x (.ins a.cPty dx (pf d p ((Vbemar.party N i).version + 1 : Nat) (Vbemar.party N i).acked true false b))) := Off.upd (by rw [mark_ne npx.symm]; exact tx)
        exact (hb.grow g).off f (fun e => nomatch e)
    refine ⟨_, rfl, _, rfl, mark t p .fix, m, L, _, i, rfl, r2, by show i < (N.parties.modify i sent1).length; rw [List.length_modify]; exact hi, fun H' t' ms r' f' => k H' t' ms r' ?_⟩
    exact (g.fm.trans (Fm.upd (by rw [mark_ne npx.symm, tx]; exact some_ne) (by rw [mark_ne npx.symm, tx]; exact fun e => nomatch e))).trans f'
def sp_recv (a : Ad) (ok : Msg → Prop) : Sp := fun vs H Q _ => ∃ (t : Tg) (m : Addr) (L : Lyt) (N : Net) (x : Addr) (y : Msg), vs = [.ref m, .ref x] ∧ Rep a.toAdr H t m L N ∧ MsAt a.toAdr H t x y ∧ MsgOk N.parties.length y ∧ ok y ∧
  ∀ (H' : Hp) (t' : Tg) (ms : List Addr), Rep a.toAdr H' t' m { L with ms := ms } (Vbemar.arrive N y) → Fm t t' H H' → Q .non H'
theorem ok_receive_sheet (T : Txt K mg a) : FnOk P w K mg base CX0 3 a.f_receive_sheet a.d_receive_sheet ["market", "message"] (sp_recv a fun y => ∃ p v l, y = .doc p v l) := by
  refine T.receive_sheet.fn.ok sc_receive_sheet (fun vs H Q E h => ?_) (fun cdv A outer s H vs Q E hr h => ?_)
  · obtain ⟨t, m, L, N, x, y, rfl, _⟩ := h
    rfl
  · obtain ⟨t, m, L, N, x, y, rfl, r, ⟨dx, sh, hx, tx, hsh⟩, ok, ⟨p, v, l, rfl⟩, k⟩ := h
    have hr1 : Room 1 _ := hr.mono (by decide)
    obtain ⟨dm, hm⟩ := r.mkt
    obtain ⟨hp, okl⟩ := ok
    obtain ⟨c, hc, dc, sc, hca, tc, hcs⟩ := r.acAt hp
    refine ⟨_, (pss_cons (ps_set (i := 2) sc_receive_sheet.nd rfl (Or.inl rfl) (pe_meth (pv 0) T.cl_Market T.Market_account_of.me (ok_Market_account_of T) (hr.mono (by decide)) T.Market_account_of.bd .nil pass0 (pa_cons (pe_fld (pv 1) rfl) pa_nil))) (pss_cons (ps_set (i := 3) sc_receive_sheet.nd rfl (Or.inl rfl) (pe_gint T.c_KIND_HAVE)) (pss_cons (ps_if (pt_cmpR op_gt (pe_fld (pv 1) rfl) (pe_fld (pv 2) rfl) (nomark _)) (pss_one (ps_if (pt_truth (pe_fld (pv 0) rfl) (fun _ => rfl)) (pss_one (ps_set (i := 3) sc_receive_sheet.nd rfl (Or.inl rfl) (pe_gint T.c_KIND_LATE))) (pss_cons (ps_fld (pv 2) (pe_fld (pv 1) rfl) rfl) (pss_one (ps_fld (pv 2) (pe_fld (pv 1) rfl) rfl))))) pss_nil) (pss_one (ps_expr (pe_meth (pe_fld (pv 0) rfl) T.cl_Net T.Net_post.me (ok_Net_post T) (hr.mono (by decide)) T.Net_post.bd .nil pass0 (pa_cons (pe_make T.Message_init.maker (ok_Message_init T) (hr.mono (by decide)) (by rfl) T.mg_Message T.Message_init.bd .nil pass0 (pa_cons (pv 3) (pa_cons (pe_fld (pv 1) rfl) (pa_cons (pe_fld (pv 1) rfl) (pa_cons pe_dnewT pa_nil))))) pa_nil))))))), ?_⟩
    refine ⟨_, rfl, m, dm, _, rfl, hm, rfl, _, rfl, x, _, dx, _, _, rfl, hx, T.cl_Message, T.na_Message_party, rfl, t, m, L, N, p, c, rfl, r, hc, ?_⟩
    obtain ⟨dn, hn⟩ := r.nn
    have nxc : x ≠ c := tag_ne tx tc (fun e => nomatch e)
    refine ⟨_, rfl, x, _, dx, _, _, rfl, hx, T.cl_Message, T.na_Message_version, rfl, _, rfl, c, _, dc, _, _, rfl, hca, T.cl_Account, T.na_Account_version, rfl, _, _, rfl, rfl, _, rfl, ite_dec (fun c1 => ?_) fun c1 => ?_⟩
    · have c1' : ¬ v ≤ (Vbemar.heldOf N p).version := by
        have c1'' : (((Vbemar.heldOf N p).version : Nat) : Int) < ((v : Nat) : Int) := c1
        omega
      refine ⟨_, rfl, m, _, dm, _, _, rfl, hm, T.cl_Market, T.na_Market_closed, rfl, _, rfl, ite2 (fun c2 => ?_) fun c2 => ?_⟩
      · have e : Vbemar.arrive N (.doc p v l) = Vbemar.post N (.late p v) := by
          show (if v ≤ _ then _ else if N.closed = true then _ else _) = _
          rw [if_neg c1', if_pos c2]
        refine ⟨_, rfl, m, _, dm, _, _, rfl, hm, T.cl_Market, T.na_Market_net, rfl, L.nn, dn, _, rfl, hn, rfl, _, rfl, _, rfl, x, _, dx, _, _, rfl, hx, T.cl_Message, T.na_Message_party, rfl, _, rfl, x, _, dx, _, _, rfl, hx, T.cl_Message, T.na_Message_version, rfl, fun f hf => ?_⟩
        obtain ⟨rf, sf, ff⟩ := r.newSheet hf
        exact fin_post (.late p v) rf sf hp fun H' t' ms r' f' => k H' t' ms (by rw [e]; exact r') (ff.trans f')
      · have e : Vbemar.arrive N (.doc p v l) = Vbemar.post (Vbemar.setHeld N p fun h => { h with version := v, sheet := l }) (.ack p v) := by
          show (if v ≤ _ then _ else if N.closed = true then _ else _) = _
          rw [if_neg c1', if_neg c2]
        refine ⟨_, rfl, x, _, dx, _, _, rfl, hx, T.cl_Message, T.na_Message_version, rfl, _, rfl, c, _, dc, _, rfl, hca, T.cl_Account, T.na_Account_version, few, ?_⟩
        refine ⟨_, rfl, x, _, dx, _, _, rfl, (by rw [upd_ne nxc]; exact hx), T.cl_Message, T.na_Message_sheet, rfl, _, rfl, c, _, dc, _, rfl, upd_same, T.cl_Account, T.na_Account_sheet, few, ?_⟩
        rw [upd_upd]
        have off : Off (some (.acc p)) t H (upd H c (.ins a.cAcc dc (af v sh (Vbemar.heldOf N p).seen))) := Off.upd tc
        have r1 : Rep a.toAdr (upd H c (.ins a.cAcc dc (af v sh (Vbemar.heldOf N p).seen))) t m L (Vbemar.setHeld N p fun h => { h with version := v, sheet := l }) :=
          r.held hc (GM.held_at (by rw [r.wf.hl]; exact hp)) ⟨dc, sh, upd_same, tc, hsh.off off⟩ okl
        have f1 : Fm t t H (upd H c (.ins a.cAcc dc (af v sh (Vbemar.heldOf N p).seen))) := Fm.upd (by rw [tc]; exact some_ne) (by rw [tc]; exact fun e => nomatch e)
        have hm1 := off m _ hm (by rw [r.tm]; exact fun e => nomatch e)
        have hn1 := off L.nn _ hn (by rw [r.tnn]; exact fun e => nomatch e)
        have hx1 := off x _ hx (by rw [tx]; exact fun e => nomatch e)
        refine ⟨_, rfl, m, _, dm, _, _, rfl, hm1, T.cl_Market, T.na_Market_net, rfl, L.nn, dn, _, rfl, hn1, rfl, _, rfl, _, rfl, x, _, dx, _, _, rfl, hx1, T.cl_Message, T.na_Message_party, rfl, _, rfl, x, _, dx, _, _, rfl, hx1, T.cl_Message, T.na_Message_version, rfl, fun f hf => ?_⟩
        obtain ⟨rf, sf, ff⟩ := r1.newSheet hf
        exact fin_post (.ack p v) rf sf hp fun H' t' ms r' f' => k H' t' ms (by rw [e]; exact r') ((f1.trans ff).trans f')
    · have c1' : v ≤ (Vbemar.heldOf N p).version := by
        have c1'' : ¬ (((Vbemar.heldOf N p).version : Nat) : Int) < ((v : Nat) : Int) := c1
        omega
      have e : Vbemar.arrive N (.doc p v l) = Vbemar.post N (.ack p v) := by
        show (if v ≤ _ then _ else if N.closed = true then _ else _) = _
        rw [if_pos c1']
      refine ⟨_, rfl, m, _, dm, _, _, rfl, hm, T.cl_Market, T.na_Market_net, rfl, L.nn, dn, _, rfl, hn, rfl, _, rfl, _, rfl, x, _, dx, _, _, rfl, hx, T.cl_Message, T.na_Message_party, rfl, _, rfl, x, _, dx, _, _, rfl, hx, T.cl_Message, T.na_Message_version, rfl, fun f hf => ?_⟩
      obtain ⟨rf, sf, ff⟩ := r.newSheet hf
      exact fin_post (.ack p v) rf sf hp fun H' t' ms r' f' => k H' t' ms (by rw [e]; exact r') (ff.trans f')
theorem ok_receive_have (T : Txt K mg a) : FnOk P w K mg base CX0 2 a.f_receive_have a.d_receive_have ["market", "message"] (sp_recv a fun y => ∃ p v, y = .ack p v) := by
  refine T.receive_have.fn.ok sc_receive_have (fun vs H Q E h => ?_) (fun cdv A outer s H vs Q E hr h => ?_)
  · obtain ⟨t, m, L, N, x, y, rfl, _⟩ := h
    rfl
  · obtain ⟨t, m, L, N, x, y, rfl, r, ⟨dx, sh, hx, tx, hsh⟩, ok, ⟨p, v, rfl⟩, k⟩ := h
    obtain ⟨dm, hm⟩ := r.mkt
    have hp : p < N.parties.length := ok
    obtain ⟨c, hc, dc, d, sn, b, hcp, tc, hd, hs, hb⟩ := r.ptAt hp
    have po := r.wf.po p _ (GM.party_at hp)
    refine ⟨_, (pss_cons (ps_set (i := 2) sc_receive_have.nd rfl (Or.inl rfl) (pe_meth (pv 0) T.cl_Market T.Market_party_of.me (ok_Market_party_of T) (hr.mono (by decide)) T.Market_party_of.bd .nil pass0 (pa_cons (pe_fld (pv 1) rfl) pa_nil))) (pss_cons (ps_fld (pv 2) (pe_callB (call_max2 rfl) (by rfl) T.b_max boot_max (pa_cons (pe_fld (pv 2) rfl) (pa_cons (pe_fld (pv 1) rfl) pa_nil))) rfl) (pss_one (ps_if (pt_cmpR op_eq (pe_fld (pv 1) rfl) (pe_fld (pv 2) rfl) (nomark _)) (pss_one (ps_fld (pv 2) pe_bl rfl)) pss_nil)))), ?_⟩
    refine ⟨_, rfl, m, dm, _, rfl, hm, rfl, _, rfl, x, _, dx, _, _, rfl, hx, T.cl_Message, T.na_Message_party, rfl, t, m, L, N, p, c, rfl, r, hc, ?_⟩
    refine ⟨_, rfl, c, _, dc, _, _, rfl, hcp, T.cl_Party, T.na_Party_acked, rfl, _, rfl, x, _, dx, _, _, rfl, hx, T.cl_Message, T.na_Message_version, rfl, _, _, rfl, _, rfl, c, _, dc, _, rfl, hcp, T.cl_Party, T.na_Party_acked, few, ?_⟩
    have em : (if ((v : Nat) : Int) > (((Vbemar.party N p).acked : Nat) : Int) then ((v : Nat) : Int) else (((Vbemar.party N p).acked : Nat) : Int)) = ((max (Vbemar.party N p).acked v : Nat) : Int) := by split <;> omega
    have off : ∀ (o : HO), Off (some (.pty p)) t H (upd H c o) := fun o => Off.upd tc
    have f1 : ∀ (o : HO), Fm t t H (upd H c o) := fun o => Fm.upd (by rw [tc]; exact some_ne) (by rw [tc]; exact fun e => nomatch e)
    have hx1 : ∀ (o : HO), upd H c o x = some _ := fun o => off o x _ hx (by rw [tx]; exact fun e => nomatch e)
    refine ⟨_, rfl, x, _, dx, _, _, rfl, hx1 _, T.cl_Message, T.na_Message_version, rfl, _, rfl, c, _, dc, _, _, rfl, upd_same, T.cl_Party, T.na_Party_version, rfl, rfl, _, rfl, ite_dec (fun c1 => ?_) fun c1 => ?_⟩
    · have c2 : v = (Vbemar.party N p).version := by
        injection c1 with c1
        exact Int.ofNat.inj c1
      refine ⟨_, rfl, c, _, dc, _, rfl, upd_same, T.cl_Party, T.na_Party_waits, few, ?_⟩
      rw [upd_upd]
      refine k _ t L.ms (r.party hc (GM.party_at hp) ⟨dc, d, sn, b, ?_, tc, hd.off (off _) (fun e => nomatch e), hs.off (off _), hb.off (off _) (fun e => nomatch e)⟩ ⟨po.draft, po.sent, po.final⟩) (f1 _)
      rw [upd_same]
      refine congrArg (fun z => some (HO.ins a.cPty dc z)) ?_
      show pf d sn _ _ false _ b = pf d sn _ _ _ _ b
      have ew : ((Vbemar.party N p).waits && v != (Vbemar.party N p).version) = false := by rw [c2]; simp
      rw [ew]
      exact congrArg (fun z => pf d sn _ z false _ b) em
    · have c2 : ¬ v = (Vbemar.party N p).version := fun e => c1 (congrArg (fun z : Nat => V.int (z : Int)) e)
      refine k _ t L.ms (r.party hc (GM.party_at hp) ⟨dc, d, sn, b, ?_, tc, hd.off (off _) (fun e => nomatch e), hs.off (off _), hb.off (off _) (fun e => nomatch e)⟩ ⟨po.draft, po.sent, po.final⟩) (f1 _)
      rw [upd_same]
      refine congrArg (fun z => some (HO.ins a.cPty dc z)) ?_
      show pf d sn _ _ _ _ b = pf d sn _ _ _ _ b
      have ew : ((Vbemar.party N p).waits && v != (Vbemar.party N p).version) = (Vbemar.party N p).waits := by simp [c2]
      rw [ew]
      exact congrArg (fun z => pf d sn _ z _ _ b) em
theorem ok_receive_late (T : Txt K mg a) : FnOk P w K mg base CX0 2 a.f_receive_late a.d_receive_late ["market", "message"] (sp_recv a fun y => ∃ p v, y = .late p v) := by
  refine T.receive_late.fn.ok sc_receive_late (fun vs H Q E h => ?_) (fun cdv A outer s H vs Q E hr h => ?_)
  · obtain ⟨t, m, L, N, x, y, rfl, _⟩ := h
    rfl
  · obtain ⟨t, m, L, N, x, y, rfl, r, ⟨dx, sh, hx, tx, hsh⟩, ok, ⟨p, v, rfl⟩, k⟩ := h
    obtain ⟨dm, hm⟩ := r.mkt
    have hp : p < N.parties.length := ok
    obtain ⟨c, hc, dc, d, sn, b, hcp, tc, hd, hs, hb⟩ := r.ptAt hp
    have po := r.wf.po p _ (GM.party_at hp)
    refine ⟨_, (pss_cons (ps_set (i := 2) sc_receive_late.nd rfl (Or.inl rfl) (pe_meth (pv 0) T.cl_Market T.Market_party_of.me (ok_Market_party_of T) (hr.mono (by decide)) T.Market_party_of.bd .nil pass0 (pa_cons (pe_fld (pv 1) rfl) pa_nil))) (pss_one (ps_if (pt_cmpR op_eq (pe_fld (pv 1) rfl) (pe_fld (pv 2) rfl) (nomark _)) (pss_cons (ps_fld (pv 2) pe_bl rfl) (pss_one (ps_fld (pv 2) pe_bl rfl))) pss_nil))), ?_⟩
    refine ⟨_, rfl, m, dm, _, rfl, hm, rfl, _, rfl, x, _, dx, _, _, rfl, hx, T.cl_Message, T.na_Message_party, rfl, t, m, L, N, p, c, rfl, r, hc, ?_⟩
    have off : ∀ (o : HO), Off (some (.pty p)) t H (upd H c o) := fun o => Off.upd tc
    have f1 : ∀ (o : HO), Fm t t H (upd H c o) := fun o => Fm.upd (by rw [tc]; exact some_ne) (by rw [tc]; exact fun e => nomatch e)
    refine ⟨_, rfl, x, _, dx, _, _, rfl, hx, T.cl_Message, T.na_Message_version, rfl, _, rfl, c, _, dc, _, _, rfl, hcp, T.cl_Party, T.na_Party_version, rfl, rfl, _, rfl, ite_dec (fun c1 => ?_) fun c1 => ?_⟩
    · have c2 : v = (Vbemar.party N p).version := by
        injection c1 with c1
        exact Int.ofNat.inj c1
      refine ⟨_, rfl, c, _, dc, _, rfl, hcp, T.cl_Party, T.na_Party_waits, few, ?_⟩
      refine ⟨_, rfl, c, _, dc, _, rfl, upd_same, T.cl_Party, T.na_Party_too_late, few, ?_⟩
      rw [upd_upd]
      refine k _ t L.ms (r.party (f := fun x => if v = x.version then { x with waits := false, tooLate := true } else x) hc (GM.party_at hp) ?_ ?_) (f1 _)
      · rw [if_pos c2]
        exact ⟨dc, d, sn, b, upd_same, tc, hd.off (off _) (fun e => nomatch e), hs.off (off _), hb.off (off _) (fun e => nomatch e)⟩
      · rw [if_pos c2]
        exact ⟨po.draft, po.sent, po.final⟩
    · have c2 : ¬ v = (Vbemar.party N p).version := fun e => c1 (congrArg (fun z : Nat => V.int (z : Int)) e)
      refine k H t L.ms ?_ (Fm.refl _ _)
      have e : Vbemar.arrive N (.late p v) = N := by
        show Vbemar.setParty N p (fun x : Party => if v = x.version then { x with waits := false, tooLate := true } else x) = N
        unfold Vbemar.setParty
        have e2 : N.parties.modify p (fun x : Party => if v = x.version then { x with waits := false, tooLate := true } else x) = N.parties := by
          apply List.ext_getElem?
          intro i
          rw [List.getElem?_modify]
          by_cases ci : p = i
          · subst ci
            rw [GM.party_at hp]
            simp [c2]
          · simp [ci]
        rw [e2]
      rw [e]
      exact r
theorem ok_receive_matched (T : Txt K mg a) : FnOk P w K mg base CX0 3 a.f_receive_matched a.d_receive_matched ["market", "message"] (sp_recv a fun y => ∃ p l, y = .conf p l) := by
  refine T.receive_matched.fn.ok sc_receive_matched (fun vs H Q E h => ?_) (fun cdv A outer s H vs Q E hr h => ?_)
  · obtain ⟨t, m, L, N, x, y, rfl, _⟩ := h
    rfl
  · obtain ⟨t, m, L, N, x, y, rfl, r, ⟨dx, sh, hx, tx, hsh⟩, ok, ⟨p, l, rfl⟩, k⟩ := h
    have hr1 : Room 1 _ := hr.mono (by decide)
    obtain ⟨dm, hm⟩ := r.mkt
    obtain ⟨dn, hn⟩ := r.nn
    obtain ⟨hp, hl⟩ := ok
    obtain ⟨c, hc, dc, d, sn, b, hcp, tc, hd, hs, hb⟩ := r.ptAt hp
    have po := r.wf.po p _ (GM.party_at hp)
    refine ⟨_, (pss_cons (ps_set (i := 2) sc_receive_matched.nd rfl (Or.inl rfl) (pe_meth (pv 0) T.cl_Market T.Market_party_of.me (ok_Market_party_of T) (hr.mono (by decide)) T.Market_party_of.bd .nil pass0 (pa_cons (pe_fld (pv 1) rfl) pa_nil))) (pss_cons (ps_fld (pv 2) (pe_fld (pv 1) rfl) rfl) (pss_one (ps_expr (pe_meth (pe_fld (pv 0) rfl) T.cl_Net T.Net_post.me (ok_Net_post T) (hr.mono (by decide)) T.Net_post.bd .nil pass0 (pa_cons (pe_make T.Message_init.maker (ok_Message_init T) (hr.mono (by decide)) (by rfl) T.mg_Message T.Message_init.bd .nil pass0 (pa_cons (pe_gint T.c_KIND_SEEN) (pa_cons (pe_fld (pv 1) rfl) (pa_cons pe_int (pa_cons pe_dnewT pa_nil))))) pa_nil)))))), ?_⟩
    refine ⟨_, rfl, m, dm, _, rfl, hm, rfl, _, rfl, x, _, dx, _, _, rfl, hx, T.cl_Message, T.na_Message_party, rfl, t, m, L, N, p, c, rfl, r, hc, ?_⟩
    refine ⟨_, rfl, x, _, dx, _, _, rfl, hx, T.cl_Message, T.na_Message_sheet, rfl, _, rfl, c, _, dc, _, rfl, hcp, T.cl_Party, T.na_Party_belief, few, ?_⟩
    have off : ∀ (o : HO), Off (some (.pty p)) t H (upd H c o) := fun o => Off.upd tc
    have f1 : ∀ (o : HO), Fm t t H (upd H c o) := fun o => Fm.upd (by rw [tc]; exact some_ne) (by rw [tc]; exact fun e => nomatch e)
    have r1 : Rep a.toAdr (upd H c (.ins a.cPty dc (pf d sn (Vbemar.party N p).version (Vbemar.party N p).acked (Vbemar.party N p).waits (Vbemar.party N p).tooLate (.ref sh)))) t m L (Vbemar.setParty N p fun x => { x with final := some l }) :=
      r.party hc (GM.party_at hp) ⟨dc, d, sn, .ref sh, upd_same, tc, hd.off (off _) (fun e => nomatch e), hs.off (off _), sh, rfl, hsh.off (off _)⟩ ⟨po.draft, po.sent, fun l' e => by cases (show some l = some l' from e); exact hl⟩
    have hm1 := off (.ins a.cPty dc (pf d sn (Vbemar.party N p).version (Vbemar.party N p).acked (Vbemar.party N p).waits (Vbemar.party N p).tooLate (.ref sh))) m _ hm (by rw [r.tm]; exact fun e => nomatch e)
    have hn1 := off (.ins a.cPty dc (pf d sn (Vbemar.party N p).version (Vbemar.party N p).acked (Vbemar.party N p).waits (Vbemar.party N p).tooLate (.ref sh))) L.nn _ hn (by rw [r.tnn]; exact fun e => nomatch e)
    have hx1 := off (.ins a.cPty dc (pf d sn (Vbemar.party N p).version (Vbemar.party N p).acked (Vbemar.party N p).waits (Vbemar.party N p).tooLate (.ref sh))) x _ hx (by rw [tx]; exact fun e => nomatch e)
    refine ⟨_, rfl, m, _, dm, _, _, rfl, hm1, T.cl_Market, T.na_Market_net, rfl, L.nn, dn, _, rfl, hn1, rfl, _, rfl, x, _, dx, _, _, rfl, hx1, T.cl_Message, T.na_Message_party, rfl, fun f hf => ?_⟩
    obtain ⟨rf, sf, ff⟩ := r1.newSheet hf
    exact fin_post (.seen p) rf sf (by show p < (N.parties.modify p _).length; rw [List.length_modify]; exact hp) fun H' t' ms r' f' => k H' t' ms r' (((f1 _).trans ff).trans f')
theorem ok_receive_seen (T : Txt K mg a) : FnOk P w K mg base CX0 2 a.f_receive_seen a.d_receive_seen ["market", "message"] (sp_recv a fun y => ∃ p, y = .seen p) := by
  refine T.receive_seen.fn.ok sc_receive_seen (fun vs H Q E h => ?_) (fun cdv A outer s H vs Q E hr h => ?_)
  · obtain ⟨t, m, L, N, x, y, rfl, _⟩ := h
    rfl
  · obtain ⟨t, m, L, N, x, y, rfl, r, ⟨dx, sh, hx, tx, hsh⟩, ok, ⟨p, rfl⟩, k⟩ := h
    obtain ⟨dm, hm⟩ := r.mkt
    have hp : p < N.parties.length := ok
    obtain ⟨c, hc, dc, sc, hca, tc, hcs⟩ := r.acAt hp
    refine ⟨_, (pss_cons (ps_set (i := 2) sc_receive_seen.nd rfl (Or.inl rfl) (pe_meth (pv 0) T.cl_Market T.Market_account_of.me (ok_Market_account_of T) (hr.mono (by decide)) T.Market_account_of.bd .nil pass0 (pa_cons (pe_fld (pv 1) rfl) pa_nil))) (pss_one (ps_fld (pv 2) pe_bl rfl))), ?_⟩
    refine ⟨_, rfl, m, dm, _, rfl, hm, rfl, _, rfl, x, _, dx, _, _, rfl, hx, T.cl_Message, T.na_Message_party, rfl, t, m, L, N, p, c, rfl, r, hc, ?_⟩
    refine ⟨_, rfl, c, _, dc, _, rfl, hca, T.cl_Account, T.na_Account_seen, few, ?_⟩
    have off : Off (some (.acc p)) t H (upd H c (.ins a.cAcc dc (af (Vbemar.heldOf N p).version sc true))) := Off.upd tc
    exact k _ t L.ms (r.held hc (GM.held_at (by rw [r.wf.hl]; exact hp)) ⟨dc, sc, upd_same, tc, hcs.off off⟩ (show GM.Ok p (Vbemar.heldOf N p).sheet from r.wf.ho p _ (GM.held_at (by rw [r.wf.hl]; exact hp)))) (Fm.upd (by rw [tc]; exact some_ne) (by rw [tc]; exact fun e => nomatch e))
theorem ok_arrive (T : Txt K mg a) : FnOk P w K mg base CX0 4 a.f_arrive a.d_arrive ["market", "message"] (sp_recv a fun _ => True) := by
  refine T.arrive.fn.ok sc_arrive (fun vs H Q E h => ?_) (fun cdv A outer s H vs Q E hr h => ?_)
  · obtain ⟨t, m, L, N, x, y, rfl, _⟩ := h
    rfl
  · obtain ⟨t, m, L, N, x, y, rfl, r, hmx, ok, _, k⟩ := h
    have hr1 : Room 1 _ := hr.mono (by decide)
    have hr2 : Room 2 _ := hr.mono (by decide)
    obtain ⟨dm, hm⟩ := r.mkt
    obtain ⟨dx, sh, hx, tx, hsh⟩ := id hmx
    refine ⟨_, (pss_one (ps_if (pt_cmpR op_eq (pe_fld (pv 1) rfl) (pe_gint T.c_KIND_SHEET) (nomark _)) (pss_one (ps_expr (pe_call (ok_receive_sheet T) (hr.mono (by decide)) (by rfl) T.receive_sheet.mg T.receive_sheet.fn.kp T.receive_sheet.bd .nil pass0 (pa_cons (pv 0) (pa_cons (pv 1) pa_nil))))) (pss_one (ps_if (pt_cmpR op_eq (pe_fld (pv 1) rfl) (pe_gint T.c_KIND_HAVE) (nomark _)) (pss_one (ps_expr (pe_call (ok_receive_have T) (hr.mono (by decide)) (by rfl) T.receive_have.mg T.receive_have.fn.kp T.receive_have.bd .nil pass0 (pa_cons (pv 0) (pa_cons (pv 1) pa_nil))))) (pss_one (ps_if (pt_cmpR op_eq (pe_fld (pv 1) rfl) (pe_gint T.c_KIND_LATE) (nomark _)) (pss_one (ps_expr (pe_call (ok_receive_late T) (hr.mono (by decide)) (by rfl) T.receive_late.mg T.receive_late.fn.kp T.receive_late.bd .nil pass0 (pa_cons (pv 0) (pa_cons (pv 1) pa_nil))))) (pss_one (ps_if (pt_cmpR op_eq (pe_fld (pv 1) rfl) (pe_gint T.c_KIND_MATCHED) (nomark _)) (pss_one (ps_expr (pe_call (ok_receive_matched T) (hr.mono (by decide)) (by rfl) T.receive_matched.mg T.receive_matched.fn.kp T.receive_matched.bd .nil pass0 (pa_cons (pv 0) (pa_cons (pv 1) pa_nil))))) (pss_one (ps_expr (pe_call (ok_receive_seen T) (hr.mono (by decide)) (by rfl) T.receive_seen.mg T.receive_seen.fn.kp T.receive_seen.bd .nil pass0 (pa_cons (pv 0) (pa_cons (pv 1) pa_nil))))))))))))), ?_⟩
    cases y with
    | doc p v l => exact ⟨_, rfl, x, _, dx, _, _, rfl, hx, T.cl_Message, T.na_Message_kind, rfl, rfl, _, rfl, dT rfl ⟨_, rfl, _, rfl, t, m, L, N, x, _, rfl, r, hmx, ok, ⟨p, v, l, rfl⟩, k⟩⟩
    | ack p v => exact ⟨_, rfl, x, _, dx, _, _, rfl, hx, T.cl_Message, T.na_Message_kind, rfl, rfl, _, rfl, dF (ne_int (show (2 : Int) ≠ 1 by decide)) ⟨_, rfl, x, _, dx, _, _, rfl, hx, T.cl_Message, T.na_Message_kind, rfl, rfl, _, rfl, dT rfl ⟨_, rfl, _, rfl, t, m, L, N, x, _, rfl, r, hmx, ok, ⟨p, v, rfl⟩, k⟩⟩⟩
    | late p v => exact ⟨_, rfl, x, _, dx, _, _, rfl, hx, T.cl_Message, T.na_Message_kind, rfl, rfl, _, rfl, dF (ne_int (show (3 : Int) ≠ 1 by decide)) ⟨_, rfl, x, _, dx, _, _, rfl, hx, T.cl_Message, T.na_Message_kind, rfl, rfl, _, rfl, dF (ne_int (show (3 : Int) ≠ 2 by decide))
        ⟨_, rfl, x, _, dx, _, _, rfl, hx, T.cl_Message, T.na_Message_kind, rfl, rfl, _, rfl, dT rfl ⟨_, rfl, _, rfl, t, m, L, N, x, _, rfl, r, hmx, ok, ⟨p, v, rfl⟩, k⟩⟩⟩⟩
    | conf p l => exact ⟨_, rfl, x, _, dx, _, _, rfl, hx, T.cl_Message, T.na_Message_kind, rfl, rfl, _, rfl, dF (ne_int (show (4 : Int) ≠ 1 by decide)) ⟨_, rfl, x, _, dx, _, _, rfl, hx, T.cl_Message, T.na_Message_kind, rfl, rfl, _, rfl, dF (ne_int (show (4 : Int) ≠ 2 by decide))
        ⟨_, rfl, x, _, dx, _, _, rfl, hx, T.cl_Message, T.na_Message_kind, rfl, rfl, _, rfl, dF (ne_int (show (4 : Int) ≠ 3 by decide)) ⟨_, rfl, x, _, dx, _, _, rfl, hx, T.cl_Message, T.na_Message_kind, rfl, rfl, _, rfl, dT rfl ⟨_, rfl, _, rfl, t, m, L, N, x, _, rfl, r, hmx, ok, ⟨p, l, rfl⟩, k⟩⟩⟩⟩⟩
    | seen p => exact ⟨_, rfl, x, _, dx, _, _, rfl, hx, T.cl_Message, T.na_Message_kind, rfl, rfl, _, rfl, dF (ne_int (show (5 : Int) ≠ 1 by decide)) ⟨_, rfl, x, _, dx, _, _, rfl, hx, T.cl_Message, T.na_Message_kind, rfl, rfl, _, rfl, dF (ne_int (show (5 : Int) ≠ 2 by decide))
        ⟨_, rfl, x, _, dx, _, _, rfl, hx, T.cl_Message, T.na_Message_kind, rfl, rfl, _, rfl, dF (ne_int (show (5 : Int) ≠ 3 by decide)) ⟨_, rfl, x, _, dx, _, _, rfl, hx, T.cl_Message, T.na_Message_kind, rfl, rfl, _, rfl, dF (ne_int (show (5 : Int) ≠ 4 by decide)) ⟨_, rfl, _, rfl, t, m, L, N, x, _, rfl, r, hmx, ok, ⟨p, rfl⟩, k⟩⟩⟩⟩⟩
end
end G
end
section
set_option Elab.async false
set_option linter.all false
set_option maxRecDepth 100000
set_option maxHeartbeats 1000000
namespace G
open PySem PySem.Spec PyProof.Rows L2
open GM (WF MsgOk Srt)
section
variable {A : Adr} {H H' : Hp} {t t' : Tg} {m : Addr} {L : Lyt} {N : Net}
/-- a new marked thing, behind a call that left all else -/
theorem growN (tl : ∀ b, H b = none → t b = none) (s : Same H H') {d : Addr} {o : HO} {g : Tag} (hd : H d = none) (h : H' d = some o) : Grow t (mark t d g) H H' ∧ ∀ b, H' b = none → mark t d g b = none := by
  refine ⟨⟨s, fun b hb => mark_ne fun e => hb (by rw [e]; exact hd)⟩, fun b hb => ?_⟩
  have e : b ≠ d := fun e => by rw [e, h] at hb; cases hb
  rw [mark_ne e]
  exact tl b (s.free hb)
end
section
variable {P : Program} {w : World} {K : PySem.W.Frag} {mg : Str → Option Value} {base : Heap} {a : Ad}
def sp_mkt (a : Ad) (f : Net → Net) : Sp := fun vs H Q _ => ∃ (t : Tg) (m : Addr) (L : Lyt) (N : Net), vs = [.ref m] ∧ Rep a.toAdr H t m L N ∧
  ∀ (H' : Hp) (t' : Tg) (ms : List Addr), Rep a.toAdr H' t' m { L with ms := ms } (f N) → Fm t t' H H' → Q .non H'
theorem ok_post_again (T : Txt K mg a) : FnOk P w K mg base CX0 4 a.f_post_again a.d_post_again ["market"] (sp_mkt a fun N => GM.again N N.parties.length) := by
  refine T.post_again.fn.ok sc_post_again (fun vs H Q E h => ?_) (fun cdv A outer s H vs Q E hr h => ?_)
  · obtain ⟨t, m, L, N, rfl, _⟩ := h
    rfl
  · obtain ⟨t, m, L, N, rfl, r, k⟩ := h
    obtain ⟨dm, hm⟩ := r.mkt
    have hn4 := r.wf.n4
    refine ⟨_, (pss_one (ps_for PassesOwn.never rfl (pi_range2 (by rfl) T.b_range (pa_cons pe_int (pa_cons (pe_op op_add (pe_fld (pv 0) rfl) pe_int) pa_nil))) (pg_name (i := 1) sc_post_again.nd rfl (Or.inl rfl)) (pss_one (ps_if (pt_truth (pe_fld (pe_meth (pv 0) T.cl_Market T.Market_party_of.me (ok_Market_party_of T) (hr.mono (by decide)) T.Market_party_of.bd .nil pass0 (pa_cons (pv 1) pa_nil)) rfl) (fun _ => rfl)) (pss_one (ps_expr (pe_call (ok_post_sent_sheet T) (hr.mono (by decide)) (by rfl) T.post_sent_sheet.mg T.post_sent_sheet.fn.kp T.post_sent_sheet.bd .nil pass0 (pa_cons (pv 0) (pa_cons (pv 1) pa_nil))))) pss_nil)))), ?_⟩
    refine ⟨_, rfl, m, _, dm, _, _, rfl, hm, T.cl_Market, T.na_Market_party_count, rfl, _, _, rfl, rfl, 1, (N.parties.length : Int) + 1, rfl, ⟨by omega, by omega, by omega, by omega⟩, ?_⟩
    rw [show ((N.parties.length : Int) + 1 - 1).toNat = N.parties.length by omega]
    refine for_range (lo := 1) (n := N.parties.length) (fun j σ H' => ∃ (t' : Tg) (ms : List Addr) (v : Option V), σ = [some (.ref m), v] ∧ Rep a.toAdr H' t' m { L with ms := ms } (GM.again N j) ∧ Fm t t' H H') ⟨t, L.ms, none, rfl, r, Fm.refl _ _⟩ ?_ ?_
    · rintro j σ H1 hj ⟨t1, ms1, v, rfl, r1, f1⟩
      have hj1 : j < (GM.again N j).parties.length := by rw [(GM.again_same N j).1]; exact hj
      obtain ⟨dm1, hm1⟩ := r1.mkt
      obtain ⟨x, hx, dx, d, sn, b, hxp, tx, _⟩ := r1.ptAt hj1
      rw [show (1 : Int) + (j : Int) = (j : Int) + 1 from Int.add_comm _ _]
      refine ⟨_, rfl, m, dm1, _, rfl, hm1, rfl, _, rfl, t1, m, _, _, j, x, rfl, r1, hx, x, _, dx, _, _, rfl, hxp, T.cl_Party, T.na_Party_waits, rfl, _, rfl, ite2 (fun c => ?_) fun c => ?_⟩
      · refine ⟨_, rfl, _, rfl, t1, m, _, _, j, rfl, r1, hj1, fun H2 t2 ms2 r2 f2 => ⟨t2, ms2, _, rfl, ?_, f1.trans f2⟩⟩
        rw [GM.again_succ]
        unfold GM.again1
        rw [if_pos c]
        exact r2
      · refine ⟨t1, ms1, _, rfl, ?_, f1⟩
        rw [GM.again_succ]
        unfold GM.again1
        rw [if_neg c]
        exact r1
    · rintro σ H1 ⟨t1, ms1, v, rfl, r1, f1⟩
      exact k H1 t1 ms1 r1 f1
theorem ok_post_confirmations (T : Txt K mg a) : FnOk P w K mg base CX0 4 a.f_post_confirmations a.d_post_confirmations ["market"] (sp_mkt a fun N => GM.confs N N.parties.length) := by
  refine T.post_confirmations.fn.ok sc_post_confirmations (fun vs H Q E h => ?_) (fun cdv A outer s H vs Q E hr h => ?_)
  · obtain ⟨t, m, L, N, rfl, _⟩ := h
    rfl
  · obtain ⟨t, m, L, N, rfl, r, k⟩ := h
    obtain ⟨dm, hm⟩ := r.mkt
    have hn4 := r.wf.n4
    refine ⟨_, (pss_one (ps_for PassesOwn.never rfl (pi_range2 (by rfl) T.b_range (pa_cons pe_int (pa_cons (pe_op op_add (pe_fld (pv 0) rfl) pe_int) pa_nil))) (pg_name (i := 1) sc_post_confirmations.nd rfl (Or.inl rfl)) (pss_one (ps_if (pt_not (pt_truth (pe_fld (pe_meth (pv 0) T.cl_Market T.Market_account_of.me (ok_Market_account_of T) (hr.mono (by decide)) T.Market_account_of.bd .nil pass0 (pa_cons (pv 1) pa_nil)) rfl) (fun _ => rfl))) (pss_one (ps_expr (pe_meth (pe_fld (pv 0) rfl) T.cl_Net T.Net_post.me (ok_Net_post T) (hr.mono (by decide)) T.Net_post.bd .nil pass0 (pa_cons (pe_make T.Message_init.maker (ok_Message_init T) (hr.mono (by decide)) (by rfl) T.mg_Message T.Message_init.bd .nil pass0 (pa_cons (pe_gint T.c_KIND_MATCHED) (pa_cons (pv 1) (pa_cons pe_int (pa_cons (pe_call (ok_matched_sheet T) (hr.mono (by decide)) (by rfl) T.matched_sheet.mg T.matched_sheet.fn.kp T.matched_sheet.bd .nil pass0 (pa_cons (pv 0) (pa_cons (pv 1) pa_nil))) pa_nil))))) pa_nil)))) pss_nil)))), ?_⟩
    refine ⟨_, rfl, m, _, dm, _, _, rfl, hm, T.cl_Market, T.na_Market_party_count, rfl, _, _, rfl, rfl, 1, (N.parties.length : Int) + 1, rfl, ⟨by omega, by omega, by omega, by omega⟩, ?_⟩
    rw [show ((N.parties.length : Int) + 1 - 1).toNat = N.parties.length by omega]
    refine for_range (lo := 1) (n := N.parties.length) (fun j σ H' => ∃ (t' : Tg) (ms : List Addr) (v : Option V), σ = [some (.ref m), v] ∧ Rep a.toAdr H' t' m { L with ms := ms } (GM.confs N j) ∧ Fm t t' H H') ⟨t, L.ms, none, rfl, r, Fm.refl _ _⟩ ?_ ?_
    · rintro j σ H1 hj ⟨t1, ms1, v, rfl, r1, f1⟩
      have hj1 : j < (GM.confs N j).parties.length := by rw [(GM.confs_same N j).1]; exact hj
      obtain ⟨dm1, hm1⟩ := r1.mkt
      obtain ⟨dn1, hn1⟩ := r1.nn
      obtain ⟨x, hx, dx, sn, hxa, tx, _⟩ := r1.acAt hj1
      obtain ⟨e1, s1⟩ := GM.final_srt r1.wf hj1
      rw [show (1 : Int) + (j : Int) = (j : Int) + 1 from Int.add_comm _ _]
      refine ⟨_, rfl, m, dm1, _, rfl, hm1, rfl, _, rfl, t1, m, _, _, j, x, rfl, r1, hx, x, _, dx, _, _, rfl, hxa, T.cl_Account, T.na_Account_seen, rfl, _, rfl, ?_⟩
      cases c : (Vbemar.heldOf (GM.confs N j) j).seen with
      | false =>
        refine ⟨_, rfl, m, _, dm1, _, _, rfl, hm1, T.cl_Market, T.na_Market_net, rfl, _, dn1, _, rfl, hn1, rfl, _, rfl, _, rfl, _, rfl, t1, m, _, _, j, rfl, r1, hj1, fun H4 d s4 nd h4 => ?_⟩
        obtain ⟨g4, tl4⟩ := growN (g := .fix) r1.tl s4 nd h4
        have pm : (GM.mall (GM.confs N j) j (GM.confs N j).parties.length).Perm (Vbemar.finalOf (GM.confs N j) j) := by rw [e1]
        have km : ∀ (H' : Hp) (t' : Tg) (ms : List Addr), Rep a.toAdr H' t' m { L with ms := ms } (Vbemar.post (GM.confs N j) (.conf j (Vbemar.finalOf (GM.confs N j) j))) → Fm (mark t1 d .fix) t' H4 H' →
            ∃ (t' : Tg) (ms : List Addr) (v' : Option V), ([some (.ref m), v] : L2.St).set 1 (some (.int ((j : Int) + 1))) = [some (.ref m), v'] ∧ Rep a.toAdr H' t' m { L with ms := ms } (GM.confs N (j + 1)) ∧ Fm t t' H H' := fun H' t' ms r' f' => by
          refine ⟨t', ms, _, rfl, ?_, (f1.trans g4.fm).trans f'⟩
          rw [GM.confs_succ]
          unfold GM.conf1
          rw [if_pos c]
          exact r'
        exact fin_post (Q := fun _ H' => ∃ (t' : Tg) (ms : List Addr) (v' : Option V), ([some (.ref m), v] : L2.St).set 1 (some (.int ((j : Int) + 1))) = [some (.ref m), v'] ∧ Rep a.toAdr H' t' m { L with ms := ms } (GM.confs N (j + 1)) ∧ Fm t t' H H')
          (.conf j (Vbemar.finalOf (GM.confs N j) j)) (r1.grow g4 tl4) ⟨_, h4, mark_same, pm⟩ ⟨hj1, by rw [e1]; exact s1⟩ km
      | true =>
        refine ⟨t1, ms1, _, rfl, ?_, f1⟩
        rw [GM.confs_succ]
        unfold GM.conf1
        rw [if_neg (by rw [c]; exact fun e => nomatch e)]
        exact r1
    · rintro σ H1 ⟨t1, ms1, v, rfl, r1, f1⟩
      exact k H1 t1 ms1 r1 f1
theorem ok_tick (T : Txt K mg a) : FnOk P w K mg base CX0 5 a.f_tick a.d_tick ["market"] (sp_mkt a Vbemar.tick) := by
  refine T.tick.fn.ok sc_tick (fun vs H Q E h => ?_) (fun cdv A outer s H vs Q E hr h => ?_)
  · obtain ⟨t, m, L, N, rfl, _⟩ := h
    rfl
  · obtain ⟨t, m, L, N, rfl, r, k⟩ := h
    obtain ⟨dm, hm⟩ := r.mkt
    refine ⟨_, (pss_cons (ps_fld (pv 0) (pe_op op_add (pe_fld (pv 0) rfl) pe_int) rfl) (pss_cons (ps_if (pt_cmpR op_ge (pe_fld (pv 0) rfl) (pe_fld (pv 0) rfl) (nomark _)) (pss_one (ps_fld (pv 0) pe_bl rfl)) pss_nil) (pss_cons (ps_expr (pe_call (ok_post_again T) (hr.mono (by decide)) (by rfl) T.post_again.mg T.post_again.fn.kp T.post_again.bd .nil pass0 (pa_cons (pv 0) pa_nil))) (pss_one (ps_if (pt_truth (pe_fld (pv 0) rfl) (fun _ => rfl)) (pss_one (ps_expr (pe_call (ok_post_confirmations T) (hr.mono (by decide)) (by rfl) T.post_confirmations.mg T.post_confirmations.fn.kp T.post_confirmations.bd .nil pass0 (pa_cons (pv 0) pa_nil)))) pss_nil))))), ?_⟩
    refine ⟨_, rfl, m, _, dm, _, _, rfl, hm, T.cl_Market, T.na_Market_time, rfl, _, _, rfl, rfl, _, rfl, m, _, dm, _, rfl, hm, T.cl_Market, T.na_Market_time, few, ?_⟩
    have fm : ∀ o : HO, Fm t t H (upd H m o) := fun o => Fm.upd (by rw [r.tm]; exact some_ne) (by rw [r.tm]; exact fun e => nomatch e)
    by_cases c1 : N.gate ≤ N.now + 1
    · refine ⟨_, rfl, m, _, dm, _, _, rfl, upd_same, T.cl_Market, T.na_Market_time, rfl, _, rfl, m, _, dm, _, _, rfl, upd_same, T.cl_Market, T.na_Market_gate, rfl, _, _, rfl, rfl, _, rfl, dT (by show (N.gate : Int) ≤ (N.now : Int) + 1; omega) ?_⟩
      refine ⟨_, rfl, m, _, dm, _, rfl, upd_same, T.cl_Market, T.na_Market_closed, few, ?_⟩
      rw [upd_upd]
      have r1 : Rep a.toAdr (upd H m (.ins a.cMkt dm (kf N.parties.length N.quarters N.gate (N.now + 1 : Nat) true L.pl L.al L.nn))) t m L (GM.ticked N) := by
        have e : GM.ticked N = { N with now := N.now + 1, closed := true } := by unfold GM.ticked; rw [decide_eq_true c1, Bool.or_true]
        rw [e]
        exact r.clock
      refine ⟨_, rfl, t, m, L, _, rfl, r1, fun H2 t2 ms2 r2 f2 => ?_⟩
      obtain ⟨dm2, hm2⟩ := r2.mkt
      refine ⟨_, rfl, m, _, dm2, _, _, rfl, hm2, T.cl_Market, T.na_Market_closed, rfl, _, rfl, ite2 (fun c => ?_) fun c => ?_⟩
      · refine ⟨_, rfl, t2, m, _, _, rfl, r2, fun H3 t3 ms3 r3 f3 => k H3 t3 ms3 ?_ (((fm _).trans f2).trans f3)⟩
        rw [GM.tick_eq]
        rw [if_pos (show (GM.again (GM.ticked N) (Vbemar.count (GM.ticked N))).closed = true from c)]
        exact r3
      · refine k H2 t2 ms2 ?_ ((fm _).trans f2)
        rw [GM.tick_eq]
        rw [if_neg (show ¬ (GM.again (GM.ticked N) (Vbemar.count (GM.ticked N))).closed = true from c)]
        exact r2
    · refine ⟨_, rfl, m, _, dm, _, _, rfl, upd_same, T.cl_Market, T.na_Market_time, rfl, _, rfl, m, _, dm, _, _, rfl, upd_same, T.cl_Market, T.na_Market_gate, rfl, _, _, rfl, rfl, _, rfl, dF (by show ¬ (N.gate : Int) ≤ (N.now : Int) + 1; omega) ?_⟩
      have r1 : Rep a.toAdr (upd H m (.ins a.cMkt dm (kf N.parties.length N.quarters N.gate (N.now + 1 : Nat) N.closed L.pl L.al L.nn))) t m L (GM.ticked N) := by
        have e : GM.ticked N = { N with now := N.now + 1, closed := N.closed } := by unfold GM.ticked; rw [decide_eq_false c1, Bool.or_false]
        rw [e]
        exact r.clock
      refine ⟨_, rfl, t, m, L, _, rfl, r1, fun H2 t2 ms2 r2 f2 => ?_⟩
      obtain ⟨dm2, hm2⟩ := r2.mkt
      refine ⟨_, rfl, m, _, dm2, _, _, rfl, hm2, T.cl_Market, T.na_Market_closed, rfl, _, rfl, ite2 (fun c => ?_) fun c => ?_⟩
      · refine ⟨_, rfl, t2, m, _, _, rfl, r2, fun H3 t3 ms3 r3 f3 => k H3 t3 ms3 ?_ (((fm _).trans f2).trans f3)⟩
        rw [GM.tick_eq]
        rw [if_pos (show (GM.again (GM.ticked N) (Vbemar.count (GM.ticked N))).closed = true from c)]
        exact r3
      · refine k H2 t2 ms2 ?_ ((fm _).trans f2)
        rw [GM.tick_eq]
        rw [if_neg (show ¬ (GM.again (GM.ticked N) (Vbemar.count (GM.ticked N))).closed = true from c)]
        exact r2
def sp_calm (a : Ad) : Sp := fun vs H Q _ => ∃ (t : Tg) (m : Addr) (L : Lyt) (N : Net) (n : Nat), vs = [.ref m, .int n] ∧ n ≤ 5 ∧ Rep a.toAdr H t m L N ∧
  ∀ (H' : Hp) (t' : Tg) (ms : List Addr), Rep a.toAdr H' t' m { L with ms := ms } (Vbemar.calm n N) → Fm t t' H H' → Q .non H'
theorem ok_calm (T : Txt K mg a) : FnOk P w K mg base CX0 6 a.f_calm a.d_calm ["market", "rounds"] (sp_calm a) := by
  refine T.calm.fn.ok sc_calm (fun vs H Q E h => ?_) (fun cdv A outer s H vs Q E hr h => ?_)
  · obtain ⟨t, m, L, N, n, rfl, _⟩ := h
    rfl
  · obtain ⟨t, m, L, N, n, rfl, hn5, r, k⟩ := h
    refine ⟨_, (pss_one (ps_for PassesOwn.never rfl (pi_range1 (by rfl) T.b_range (pa_cons (pv 1) pa_nil)) (pg_name (i := 2) sc_calm.nd rfl (Or.inl rfl)) (pss_cons (ps_while PassesOwn.never (pt_cmpR op_gt (pe_meth0 (pe_fld (pv 0) rfl) T.cl_Net T.Net_under_way.me (ok_Net_under_way T) (hr.mono (by decide)) T.Net_under_way.bd .nil pass0) pe_int (nomark _)) (pss_one (ps_expr (pe_call (ok_arrive T) (hr.mono (by decide)) (by rfl) T.arrive.mg T.arrive.fn.kp T.arrive.bd .nil pass0 (pa_cons (pv 0) (pa_cons (pe_meth (pe_fld (pv 0) rfl) T.cl_Net T.Net_take.me (ok_Net_take T) (hr.mono (by decide)) T.Net_take.bd .nil pass0 (pa_cons pe_int pa_nil)) pa_nil)))))) (pss_one (ps_expr (pe_call (ok_tick T) (hr.mono (by decide)) (by rfl) T.tick.mg T.tick.fn.kp T.tick.bd .nil pass0 (pa_cons (pv 0) pa_nil))))))), ?_⟩
    refine ⟨_, rfl, _, rfl, by omega, by omega, ?_⟩
    rw [Int.toNat_natCast]
    refine for_range (lo := 0) (n := n) (fun j σ H' => ∃ (t' : Tg) (ms : List Addr) (v : Option V) (N' : Net), σ = [some (.ref m), some (.int n), v] ∧ Rep a.toAdr H' t' m { L with ms := ms } N' ∧ Vbemar.calm (n - j) N' = Vbemar.calm n N ∧ Fm t t' H H')
      ⟨t, L.ms, none, N, rfl, r, rfl, Fm.refl _ _⟩ ?_ ?_
    · rintro j σ H1 hj ⟨t1, ms1, v, N1, rfl, r1, e1, f1⟩
      refine ⟨fun μ σ H' => ∃ (t' : Tg) (ms : List Addr) (N' : Net) (q : Nat), σ = [some (.ref m), some (.int n), some (.int (0 + (j : Int)))] ∧ Rep a.toAdr H' t' m { L with ms := ms } N' ∧ Vbemar.flush q N' = Vbemar.flush Vbemar.MANY N1 ∧ GM.wgts N'.flying ≤ q ∧ μ = GM.wgts N'.flying ∧ Fm t t' H H',
        ⟨_, t1, ms1, N1, Vbemar.MANY, rfl, r1, rfl, ?_, rfl, f1⟩, ?_⟩
      · have h1 := GM.wgts_le N1.flying
        have h2 := r1.wf.f40
        show _ ≤ 200
        omega
      · rintro μ σ H2 ⟨t2, ms2, N2, q, rfl, r2, e2, hq, rfl, f2⟩
        obtain ⟨dm2, hm2⟩ := r2.mkt
        obtain ⟨dn2, hn2⟩ := r2.nn
        refine ⟨_, rfl, m, _, dm2, _, _, rfl, hm2, T.cl_Market, T.na_Market_net, rfl, _, dn2, _, rfl, hn2, rfl, t2, m, _, _, rfl, r2, _, _, rfl, rfl, _, rfl, ?_⟩
        cases hf : N2.flying with
        | nil =>
          refine dF (by show ¬ (0 : Int) < ((([] : List Msg).length : Nat) : Int); decide) ?_
          refine ⟨_, rfl, t2, m, _, _, rfl, r2, fun H3 t3 ms3 r3 f3 => ⟨t3, ms3, _, _, rfl, r3, ?_, f2.trans f3⟩⟩
          rw [← e1, show n - j = (n - (j + 1)) + 1 by omega]
          show Vbemar.calm (n - (j + 1)) (Vbemar.tick N2) = Vbemar.calm (n - (j + 1)) (Vbemar.tick (Vbemar.flush Vbemar.MANY N1))
          rw [← e2, GM.flush_nil hf]
        | cons y rest =>
          refine dT (by show (0 : Int) < (((y :: rest).length : Nat) : Int); rw [List.length_cons]; omega) ?_
          have h0 : N2.flying[0]? = some y := by rw [hf]; rfl
          obtain ⟨x, hx, mx⟩ := r2.msAt h0
          refine ⟨_, fun σ' H' h' => h', _, rfl, _, rfl, m, _, dm2, _, _, rfl, hm2, T.cl_Market, T.na_Market_net, rfl, _, dn2, _, rfl, hn2, rfl, t2, m, _, _, 0, x, rfl, r2, hx, fun H3 r3 f3 => ?_⟩
          refine ⟨t2, m, _, _, x, y, rfl, r3, mx.fm f3, r2.wf.fl y (by rw [hf]; exact List.mem_cons_self), trivial, fun H4 t4 ms4 r4 f4 => ?_⟩
          have hw := GM.wgts_step1 hf
          have er : N2.flying.eraseIdx 0 = rest := by rw [hf]; rfl
          rw [er] at r4
          have hq0 : q ≠ 0 := fun e => by omega
          obtain ⟨q', rfl⟩ := Nat.exists_eq_succ_of_ne_zero hq0
          refine ⟨_, by rw [← hf]; exact hw, t4, ms4, GM.step1 N2 y rest, q', rfl, r4, ?_, by omega, rfl, (f2.trans f3).trans f4⟩
          rw [← e2]
          exact (GM.flush_cons hf q').symm
    · rintro σ H1 ⟨t1, ms1, v, N1, rfl, r1, e1, f1⟩
      refine k H1 t1 ms1 ?_ f1
      rw [Nat.sub_self] at e1
      rw [← e1]
      exact r1
end
end G
end
section
set_option Elab.async false
set_option linter.all false
set_option maxRecDepth 100000
set_option maxHeartbeats 1000000
namespace G
open PySem PySem.Spec PyProof.Rows L2
open GM (WF MsgOk Srt)
section
variable {P : Program} {w : World} {K : PySem.W.Frag} {mg : Str → Option Value} {base : Heap} {a : Ad}
def sp_Party_init (a : Ad) : Sp := fun vs H Q _ => ∃ (x dx : Addr), vs = [.ref x] ∧ H x = some (.ins a.cPty dx []) ∧
  ∀ (H' : Hp) (d s : Addr), But x H H' → H d = none → H s = none → d ≠ s → H' d = some (.dT []) → H' s = some (.dT []) → H' x = some (.ins a.cPty dx (pf d s 0 0 false false .non)) → Q .non H'
theorem ok_Party_init (T : Txt K mg a) : FnOk P w K mg base CX0 1 a.f_Party_init a.d_Party_init ["self"] (sp_Party_init a) := by
  refine T.Party_init.fn.ok sc_Party_init (fun vs H Q E h => ?_) (fun cdv A outer s H vs Q E hr h => ?_)
  · obtain ⟨x, dx, rfl, _⟩ := h
    rfl
  · obtain ⟨x, dx, rfl, hx, k⟩ := h
    refine ⟨_, (pss_cons (ps_fld (pv 0) pe_dnewT rfl) (pss_cons (ps_fld (pv 0) pe_dnewT rfl) (pss_cons (ps_fld (pv 0) pe_int rfl) (pss_cons (ps_fld (pv 0) pe_int rfl) (pss_cons (ps_fld (pv 0) pe_bl rfl) (pss_cons (ps_fld (pv 0) pe_bl rfl) (pss_one (ps_fld (pv 0) pe_non rfl)))))))), ?_⟩
    refine fun d hd => ⟨_, rfl, x, _, dx, _, rfl, same_new hd _ _ hx, T.cl_Party, T.na_Party_draft, few, ?_⟩
    refine fun s hs => ⟨_, rfl, x, _, dx, _, rfl, same_new hs _ _ upd_same, T.cl_Party, T.na_Party_sent, few, ?_⟩
    refine ⟨_, rfl, x, _, dx, _, rfl, upd_same, T.cl_Party, T.na_Party_version, few, ?_⟩
    refine ⟨_, rfl, x, _, dx, _, rfl, upd_same, T.cl_Party, T.na_Party_acked, few, ?_⟩
    refine ⟨_, rfl, x, _, dx, _, rfl, upd_same, T.cl_Party, T.na_Party_waits, few, ?_⟩
    refine ⟨_, rfl, x, _, dx, _, rfl, upd_same, T.cl_Party, T.na_Party_too_late, few, ?_⟩
    refine ⟨_, rfl, x, _, dx, _, rfl, upd_same, T.cl_Party, T.na_Party_belief, few, ?_⟩
    have ndx : d ≠ x := (ne_of_none hx hd).symm
    have nsx : s ≠ x := fun e => by rw [e, upd_same] at hs; cases hs
    have hs1 : upd H d (.dT []) s = none := by rw [upd_ne nsx] at hs; exact hs
    have nsd : d ≠ s := fun e => by rw [← e, upd_same] at hs1; cases hs1
    have hs0 : H s = none := by rw [upd_ne nsd.symm] at hs1; exact hs1
    rw [upd_upd, upd_upd, upd_upd, upd_upd, upd_upd]
    refine k _ d s ?_ hd hs0 nsd ?_ ?_ upd_same
    · exact (((Same.but (same_new hd)).trans But.upd).trans (Same.but (same_new hs))).trans But.upd
    · rw [upd_ne ndx, upd_ne nsd, upd_ne ndx, upd_same]
    · rw [upd_ne nsx, upd_same]
def sp_Account_init (a : Ad) : Sp := fun vs H Q _ => ∃ (x dx : Addr), vs = [.ref x] ∧ H x = some (.ins a.cAcc dx []) ∧
  ∀ (H' : Hp) (s : Addr), But x H H' → H s = none → H' s = some (.dT []) → H' x = some (.ins a.cAcc dx (af 0 s false)) → Q .non H'
theorem ok_Account_init (T : Txt K mg a) : FnOk P w K mg base CX0 1 a.f_Account_init a.d_Account_init ["self"] (sp_Account_init a) := by
  refine T.Account_init.fn.ok sc_Account_init (fun vs H Q E h => ?_) (fun cdv A outer s H vs Q E hr h => ?_)
  · obtain ⟨x, dx, rfl, _⟩ := h
    rfl
  · obtain ⟨x, dx, rfl, hx, k⟩ := h
    refine ⟨_, (pss_cons (ps_fld (pv 0) pe_int rfl) (pss_cons (ps_fld (pv 0) pe_dnewT rfl) (pss_one (ps_fld (pv 0) pe_bl rfl)))), ?_⟩
    refine ⟨_, rfl, x, _, dx, _, rfl, hx, T.cl_Account, T.na_Account_version, few, ?_⟩
    refine fun s hs => ⟨_, rfl, x, _, dx, _, rfl, same_new hs _ _ upd_same, T.cl_Account, T.na_Account_sheet, few, ?_⟩
    refine ⟨_, rfl, x, _, dx, _, rfl, upd_same, T.cl_Account, T.na_Account_seen, few, ?_⟩
    have nsx : s ≠ x := fun e => by rw [e, upd_same] at hs; cases hs
    have hs0 : H s = none := by rw [upd_ne nsx] at hs; exact hs
    rw [upd_upd]
    refine k _ s ?_ hs0 ?_ upd_same
    · exact (But.upd.trans (Same.but (same_new hs))).trans But.upd
    · rw [upd_ne nsx, upd_same]
def sp_Session_init (a : Ad) : Sp := fun vs H Q _ => ∃ (x dx : Addr), vs = [.ref x] ∧ H x = some (.ins a.cSes dx []) ∧
  ∀ (H' : Hp), But x H H' → H' x = some (.ins a.cSes dx (zf .non)) → Q .non H'
theorem ok_Session_init (T : Txt K mg a) : FnOk P w K mg base CX0 1 a.f_Session_init a.d_Session_init ["self"] (sp_Session_init a) := by
  refine T.Session_init.fn.ok sc_Session_init (fun vs H Q E h => ?_) (fun cdv A outer s H vs Q E hr h => ?_)
  · obtain ⟨x, dx, rfl, _⟩ := h
    rfl
  · obtain ⟨x, dx, rfl, hx, k⟩ := h
    refine ⟨_, (pss_one (ps_fld (pv 0) pe_non rfl)), ?_⟩
    refine ⟨_, rfl, x, _, dx, _, rfl, hx, T.cl_Session, T.na_Session_market, few, ?_⟩
    exact k _ But.upd upd_same
theorem snoc_get {α : Type} {l : List α} {x y : α} {i : Nat} (h : (l ++ [x])[i]? = some y) : (i < l.length ∧ l[i]? = some y) ∨ (i = l.length ∧ y = x) := by
  by_cases c : i < l.length
  · rw [List.getElem?_append_left c] at h
    exact .inl ⟨c, h⟩
  · have hi := (List.getElem?_eq_some_iff.mp h).1
    rw [List.length_append, List.length_singleton] at hi
    have e : i = l.length := by omega
    subst e
    rw [List.getElem?_append_right (Nat.le_refl _), Nat.sub_self] at h
    exact .inr ⟨rfl, (Option.some.inj h).symm⟩
/-- what is marked keeps its mark and stands -/
def Mv (t t' : Tg) (H H' : Hp) : Prop := ∀ b g o, t b = some g → H b = some o → t' b = some g ∧ H' b = some o
theorem Mv.trans {t t1 t2 : Tg} {H H1 H2 : Hp} (p : Mv t t1 H H1) (q : Mv t1 t2 H1 H2) : Mv t t2 H H2 := fun b g o e h => q b g o (p b g o e h).1 (p b g o e h).2
theorem Mv.other {t : Tg} {H : Hp} {x : Addr} {o : HO} (h : t x = none) : Mv t t H (upd H x o) := fun b g u e hb => ⟨e, by rw [upd_ne (fun z => by rw [z, h] at e; cases e)]; exact hb⟩
theorem Mv.tag {t : Tg} {H : Hp} {x : Addr} {g : Tag} (h : t x = none) : Mv t (mark t x g) H H := fun b g u e hb => ⟨by rw [mark_ne (fun z => by rw [z, h] at e; cases e)]; exact e, hb⟩
theorem Mv.of {t t' : Tg} {H H' : Hp} (s : Same H H') (k : ∀ b, H b ≠ none → t' b = t b) : Mv t t' H H' := fun b g o e h => ⟨(k b (live_of h)).trans e, s _ _ h⟩
theorem ShAt.mv {t t' : Tg} {H H' : Hp} {b : Addr} {l : Sheet} (h : ShAt H t b l) (q : Mv t t' H H') : ShAt H' t' b l := by
  obtain ⟨us, e, g, p⟩ := h
  exact ⟨us, (q _ _ _ g e).2, (q _ _ _ g e).1, p⟩
theorem DrAt.mv {t t' : Tg} {H H' : Hp} {i : Nat} {b : Addr} {l : Sheet} (h : DrAt H t i b l) (q : Mv t t' H H') : DrAt H' t' i b l := by
  obtain ⟨us, e, g, p⟩ := h
  exact ⟨us, (q _ _ _ g e).2, (q _ _ _ g e).1, p⟩
theorem BelAt.mv {t t' : Tg} {H H' : Hp} {b : V} : ∀ {y : Option Sheet}, BelAt H t b y → Mv t t' H H' → BelAt H' t' b y
  | none, h, _ => h
  | some l, ⟨p, e, k⟩, q => ⟨p, e, k.mv q⟩
theorem PtAt.mv {A : Adr} {t t' : Tg} {H H' : Hp} {i : Nat} {b : Addr} {y : Party} (h : PtAt A H t i b y) (q : Mv t t' H H') : PtAt A H' t' i b y := by
  obtain ⟨dx, d, s, v, e, k, k1, k2, k3⟩ := h
  exact ⟨dx, d, s, v, (q _ _ _ k e).2, (q _ _ _ k e).1, k1.mv q, k2.mv q, k3.mv q⟩
theorem AcAt.mv {A : Adr} {t t' : Tg} {H H' : Hp} {i : Nat} {b : Addr} {y : Held} (h : AcAt A H t i b y) (q : Mv t t' H H') : AcAt A H' t' i b y := by
  obtain ⟨dx, s, e, k, k1⟩ := h
  exact ⟨dx, s, (q _ _ _ k e).2, (q _ _ _ k e).1, k1.mv q⟩
/-- the new parties so far, and all that was there -/
structure Made1 (A : Adr) (H0 : Hp) (t0 : Tg) (D : Addr) (H : Hp) (t : Tg) (as : List Addr) : Prop where
  lst : H D = some (.lst (as.map V.ref))
  nD : H0 D = none
  tD : t D = none
  grow : Same H0 H
  tag : ∀ b, H0 b ≠ none → t b = t0 b
  tl : ∀ b, H b = none → t b = none
  pt : ∀ (i : Nat) (x : Addr), as[i]? = some x → PtAt A H t i x {}
structure Made2 (A : Adr) (H0 : Hp) (t0 : Tg) (D : Addr) (H : Hp) (t : Tg) (as : List Addr) : Prop where
  lst : H D = some (.lst (as.map V.ref))
  nD : H0 D = none
  tD : t D = none
  grow : Same H0 H
  tag : ∀ b, H0 b ≠ none → t b = t0 b
  tl : ∀ b, H b = none → t b = none
  ac : ∀ (i : Nat) (x : Addr), as[i]? = some x → AcAt A H t i x {}
theorem nn {g : Tag} : (none : Option Tag) ≠ some g := fun e => nomatch e
theorem Made1.step {A : Adr} {H0 H1 : Hp} {t0 : Tg} {D : Addr} {H : Hp} {t : Tg} {as : List Addr} (M : Made1 A H0 t0 D H t as) {x dx d s : Addr} (nx : H x = none) (nd : H dx = none) (ne : dx ≠ x)
    (b : But x (upd (upd H dx (.own x)) x (.ins A.cPty dx [])) H1) (hd : (upd (upd H dx (.own x)) x (.ins A.cPty dx [])) d = none) (hs : (upd (upd H dx (.own x)) x (.ins A.cPty dx [])) s = none) (nds : d ≠ s)
    (h1 : H1 d = some (.dT [])) (h2 : H1 s = some (.dT [])) (h3 : H1 x = some (.ins A.cPty dx (pf d s 0 0 false false .non))) :
    ∃ t', H1 D = some (.lst (as.map V.ref)) ∧ Made1 A H0 t0 D (upd H1 D (.lst ((as ++ [x]).map V.ref))) t' (as ++ [x]) := by
  have ndx : d ≠ x := fun e => by rw [e, upd_same] at hd; cases hd
  have nsx : s ≠ x := fun e => by rw [e, upd_same] at hs; cases hs
  have free : ∀ {z : Addr}, (upd (upd H dx (.own x)) x (.ins A.cPty dx [])) z = none → H z = none := fun {z} hz => by
    have e1 : z ≠ x := fun e => by rw [e, upd_same] at hz; cases hz
    rw [upd_ne e1] at hz
    have e2 : z ≠ dx := fun e => by rw [e, upd_same] at hz; cases hz
    rw [upd_ne e2] at hz
    exact hz
  have d0 := free hd
  have s0 := free hs
  have S : Same H H1 := Same.made nx nd b
  have hD1 : H1 D = some (.lst (as.map V.ref)) := S _ _ M.lst
  have nDx : D ≠ x := ne_of_none M.lst nx
  have nDd : D ≠ d := ne_of_none M.lst d0
  have nDs : D ≠ s := ne_of_none M.lst s0
  let t' : Tg := mark (mark (mark t x (.pty as.length)) d (.drf as.length)) s .fix
  have keep : ∀ {z : Addr}, H z ≠ none → t' z = t z := fun {z} hz => by
    show mark (mark (mark t x (.pty as.length)) d (.drf as.length)) s .fix z = t z
    rw [mark_ne (fun e => hz (by rw [e]; exact s0)), mark_ne (fun e => hz (by rw [e]; exact d0)), mark_ne (fun e => hz (by rw [e]; exact nx))]
  have G1 : Grow t t' H H1 := ⟨S, fun z hz => keep hz⟩
  have tD' : t' D = none := (keep (live_of M.lst)).trans M.tD
  have O : Off none t' H1 (upd H1 D (.lst ((as ++ [x]).map V.ref))) := Off.upd tD'
  refine ⟨t', hD1, upd_same, M.nD, tD', fun z o e => ?_, fun z hz => ?_, fun z hz => ?_, fun i y hy => ?_⟩
  · rw [upd_ne (ne_of_none e M.nD)]
    exact S _ _ (M.grow _ _ e)
  · have hz' : H z ≠ none := by
      cases e : H0 z with
      | none => exact absurd e hz
      | some o => exact live_of (M.grow _ _ e)
    rw [keep hz']
    exact M.tag z hz
  · have zD : z ≠ D := fun e => by rw [e, upd_same] at hz; cases hz
    rw [upd_ne zD] at hz
    have zx : z ≠ x := fun e => by rw [e, h3] at hz; cases hz
    have zd : z ≠ d := fun e => by rw [e, h1] at hz; cases hz
    have zs : z ≠ s := fun e => by rw [e, h2] at hz; cases hz
    show mark (mark (mark t x (.pty as.length)) d (.drf as.length)) s .fix z = none
    rw [mark_ne zs, mark_ne zd, mark_ne zx]
    exact M.tl z (S.free hz)
  · rcases snoc_get hy with ⟨_, hy⟩ | ⟨rfl, rfl⟩
    · exact ((M.pt i y hy).grow G1).off O nn nn nn
    · refine PtAt.off (x := none) ⟨dx, d, s, .non, h3, ?_, ⟨[], h1, ?_, .refl _⟩, ⟨[], h2, mark_same, .refl _⟩, rfl⟩ O nn nn nn
      · show mark (mark (mark t y (.pty as.length)) d (.drf as.length)) s .fix y = _
        rw [mark_ne nsx.symm, mark_ne ndx.symm, mark_same]
      · show mark (mark (mark t y (.pty as.length)) d (.drf as.length)) s .fix d = _
        rw [mark_ne nds, mark_same]
theorem Made2.step {A : Adr} {H0 H1 : Hp} {t0 : Tg} {D : Addr} {H : Hp} {t : Tg} {as : List Addr} (M : Made2 A H0 t0 D H t as) {x dx s : Addr} (nx : H x = none) (nd : H dx = none) (ne : dx ≠ x)
    (b : But x (upd (upd H dx (.own x)) x (.ins A.cAcc dx [])) H1) (hs : (upd (upd H dx (.own x)) x (.ins A.cAcc dx [])) s = none)
    (h2 : H1 s = some (.dT [])) (h3 : H1 x = some (.ins A.cAcc dx (af 0 s false))) :
    ∃ t', H1 D = some (.lst (as.map V.ref)) ∧ Made2 A H0 t0 D (upd H1 D (.lst ((as ++ [x]).map V.ref))) t' (as ++ [x]) := by
  have nsx : s ≠ x := fun e => by rw [e, upd_same] at hs; cases hs
  have s0 : H s = none := by
    rw [upd_ne nsx] at hs
    have e2 : s ≠ dx := fun e => by rw [e, upd_same] at hs; cases hs
    rw [upd_ne e2] at hs
    exact hs
  have S : Same H H1 := Same.made nx nd b
  have hD1 : H1 D = some (.lst (as.map V.ref)) := S _ _ M.lst
  let t' : Tg := mark (mark t x (.acc as.length)) s .fix
  have keep : ∀ {z : Addr}, H z ≠ none → t' z = t z := fun {z} hz => by
    show mark (mark t x (.acc as.length)) s .fix z = t z
    rw [mark_ne (fun e => hz (by rw [e]; exact s0)), mark_ne (fun e => hz (by rw [e]; exact nx))]
  have G1 : Grow t t' H H1 := ⟨S, fun z hz => keep hz⟩
  have tD' : t' D = none := (keep (live_of M.lst)).trans M.tD
  have O : Off none t' H1 (upd H1 D (.lst ((as ++ [x]).map V.ref))) := Off.upd tD'
  refine ⟨t', hD1, upd_same, M.nD, tD', fun z o e => ?_, fun z hz => ?_, fun z hz => ?_, fun i y hy => ?_⟩
  · rw [upd_ne (ne_of_none e M.nD)]
    exact S _ _ (M.grow _ _ e)
  · have hz' : H z ≠ none := by
      cases e : H0 z with
      | none => exact absurd e hz
      | some o => exact live_of (M.grow _ _ e)
    rw [keep hz']
    exact M.tag z hz
  · have zD : z ≠ D := fun e => by rw [e, upd_same] at hz; cases hz
    rw [upd_ne zD] at hz
    have zx : z ≠ x := fun e => by rw [e, h3] at hz; cases hz
    have zs : z ≠ s := fun e => by rw [e, h2] at hz; cases hz
    show mark (mark t x (.acc as.length)) s .fix z = none
    rw [mark_ne zs, mark_ne zx]
    exact M.tl z (S.free hz)
  · rcases snoc_get hy with ⟨_, hy⟩ | ⟨rfl, rfl⟩
    · exact ((M.ac i y hy).grow G1).off O nn nn
    · refine AcAt.off (x := none) ⟨dx, s, h3, ?_, ⟨[], h2, mark_same, .refl _⟩⟩ O nn nn
      show mark (mark t y (.acc as.length)) s .fix y = _
      rw [mark_ne nsx.symm, mark_same]
theorem yes {σ : L2.St} {H : Hp} {B C : Hp → Prop} (h : B H) : tYes σ H (fun b H3 => if b = true then B H3 else C H3) := by
  show if true = true then B H else C H
  rw [if_pos rfl]
  exact h
def net0 (n q g : Nat) : Net := { quarters := q, gate := g, parties := List.replicate n {}, held := List.replicate n {} }
def sp_Market_init (a : Ad) : Sp := fun vs H Q _ => ∃ (t : Tg) (x dx : Addr) (n q g : Nat), vs = [.ref x, .int n, .int q, .int g] ∧ H x = some (.ins a.cMkt dx []) ∧ (∀ b, H b = none → t b = none) ∧ t x = none ∧ (2 ≤ n ∧ n ≤ 4) ∧ (1 ≤ q ∧ q ≤ 3) ∧
  ∀ (H' : Hp) (t' : Tg) (L : Lyt), Rep a.toAdr H' t' x L (net0 n q g) → But x H H' → (∀ b, H b ≠ none → b ≠ x → t' b = t b) → Q .non H'
theorem ok_Market_init (T : Txt K mg a) : FnOk P w K mg base CX0 3 a.f_Market_init a.d_Market_init ["self", "party_count", "quarter_count", "gate"] (sp_Market_init a) := by
  refine T.Market_init.fn.ok sc_Market_init (fun vs H Q E h => ?_) (fun cdv A outer s H vs Q E hr h => ?_)
  · obtain ⟨t, x, dx, n, q, g, rfl, _⟩ := h
    rfl
  · obtain ⟨t, x, dx, n, q, g, rfl, hx, tl, tx, ⟨hn2, hn4⟩, ⟨hq1, hq3⟩, k⟩ := h
    refine ⟨_, (pss_cons (ps_fld (pv 0) (pv 1) rfl) (pss_cons (ps_fld (pv 0) (pv 2) rfl) (pss_cons (ps_fld (pv 0) (pv 3) rfl) (pss_cons (ps_fld (pv 0) pe_int rfl) (pss_cons (ps_fld (pv 0) pe_bl rfl) (pss_cons (ps_fld (pv 0) (pe_lc (own := [("place", 4)]) rfl sc_Market_init.nd (pi_range1 (by rfl) T.b_range (pa_cons (pv 1) pa_nil)) (blkOk_by (by rfl)) (fun _ _ _ _ _ => (pg_name (i := 4) sc_Market_init.nd rfl (Or.inl rfl))) (fun _ _ _ _ _ => pts_nil) (fun _ _ _ _ _ => (pe_make0 T.Party_init.maker (ok_Party_init T) (hr.mono (by decide)) (by rfl) T.mg_Party T.Party_init.bd .nil pass0))) rfl) (pss_cons (ps_fld (pv 0) (pe_lc (own := [("place", 4)]) rfl sc_Market_init.nd (pi_range1 (by rfl) T.b_range (pa_cons (pv 1) pa_nil)) (blkOk_by (by rfl)) (fun _ _ _ _ _ => (pg_name (i := 4) sc_Market_init.nd rfl (Or.inl rfl))) (fun _ _ _ _ _ => pts_nil) (fun _ _ _ _ _ => (pe_make0 T.Account_init.maker (ok_Account_init T) (hr.mono (by decide)) (by rfl) T.mg_Account T.Account_init.bd .nil pass0))) rfl) (pss_one (ps_fld (pv 0) (pe_make0 T.Net_init.maker (ok_Net_init T) (hr.mono (by decide)) (by rfl) T.mg_Net T.Net_init.bd .nil pass0) rfl))))))))), ?_⟩
    refine ⟨_, rfl, _, rfl, x, _, dx, _, rfl, hx, T.cl_Market, T.na_Market_party_count, few, ?_⟩
    refine ⟨_, rfl, _, rfl, x, _, dx, _, rfl, upd_same, T.cl_Market, T.na_Market_quarter_count, few, ?_⟩
    refine ⟨_, rfl, _, rfl, x, _, dx, _, rfl, upd_same, T.cl_Market, T.na_Market_gate, few, ?_⟩
    refine ⟨_, rfl, x, _, dx, _, rfl, upd_same, T.cl_Market, T.na_Market_time, few, ?_⟩
    refine ⟨_, rfl, x, _, dx, _, rfl, upd_same, T.cl_Market, T.na_Market_closed, few, ?_⟩
    rw [upd_upd, upd_upd, upd_upd, upd_upd]
    have tl1 : ∀ o : HO, ∀ b, upd H x o b = none → t b = none := fun o => tl_upd tl
    refine ⟨_, rfl, _, rfl, by omega, by omega, fun D1 nD1 => ?_⟩
    rw [Int.toNat_natCast]
    refine lc_range (lo := 0) (n := n) (D := D1) (fun j H' => ∃ (t' : Tg) (as : List Addr), as.length = j ∧ Made1 a.toAdr (upd H x _) t D1 H' t' as) ⟨t, [], rfl, upd_same, nD1, tl1 _ _ nD1, same_new nD1, fun _ _ => rfl, tl_upd (tl1 _), (fun i y h => nomatch h)⟩ ?_ ?_
    · rintro j H2 hj ⟨t2, as, hl, M⟩
      refine ⟨rfl, yes ?_⟩
      intro p dp np nd ne
      refine ⟨p, dp, rfl, upd_same, fun H3 d s b hd hs nds h1 h2 h3 => ⟨rfl, ?_⟩⟩
      obtain ⟨t', hD, M'⟩ := M.step np nd ne b hd hs nds h1 h2 h3
      rw [List.map_append] at M'
      exact ⟨_, hD, by rw [List.length_map, hl]; exact line_of_le (by omega), t', as ++ [p], by rw [List.length_append, hl]; rfl, M'⟩
    rintro H2 ⟨t2, ps, hps, M⟩
    have hx2 := M.grow _ _ upd_same
    refine ⟨_, rfl, x, _, dx, _, rfl, hx2, T.cl_Market, T.na_Market_parties, few, ?_⟩
    have lx : ∀ o : HO, upd H x o x ≠ none := fun o => by rw [upd_same]; exact some_ne
    have tx2 : t2 x = none := (M.tag x (lx _)).trans tx
    have nD1x : D1 ≠ x := fun e => by rw [e, upd_same] at nD1; cases nD1
    have tl3 : ∀ o : HO, ∀ b, upd H2 x o b = none → mark t2 D1 .fix b = none := fun o b hb => by
      have bx : b ≠ x := fun e => by rw [e, upd_same] at hb; cases hb
      rw [upd_ne bx] at hb
      have bD : b ≠ D1 := fun e => by rw [e, M.lst] at hb; cases hb
      rw [mark_ne bD]
      exact M.tl b hb
    refine ⟨_, rfl, _, rfl, by omega, by omega, fun D2 nD2 => ?_⟩
    rw [Int.toNat_natCast]
    refine lc_range (lo := 0) (n := n) (D := D2) (fun j H' => ∃ (t' : Tg) (as : List Addr), as.length = j ∧ Made2 a.toAdr (upd H2 x _) (mark t2 D1 .fix) D2 H' t' as) ⟨mark t2 D1 .fix, [], rfl, upd_same, nD2, tl3 _ _ nD2, same_new nD2, fun _ _ => rfl, tl_upd (tl3 _), (fun i y h => nomatch h)⟩ ?_ ?_
    · rintro j H4 hj ⟨t4, as, hl, M4⟩
      refine ⟨rfl, yes ?_⟩
      intro p dp np nd ne
      refine ⟨p, dp, rfl, upd_same, fun H3 s b hs h2 h3 => ⟨rfl, ?_⟩⟩
      obtain ⟨t', hD, M'⟩ := M4.step np nd ne b hs h2 h3
      rw [List.map_append] at M'
      exact ⟨_, hD, by rw [List.length_map, hl]; exact line_of_le (by omega), t', as ++ [p], by rw [List.length_append, hl]; rfl, M'⟩
    rintro H5 ⟨t5, as, has, M5⟩
    have hx5 := M5.grow _ _ upd_same
    refine ⟨_, rfl, x, _, dx, _, rfl, hx5, T.cl_Market, T.na_Market_accounts, few, ?_⟩
    have lx2 : ∀ o : HO, upd H2 x o x ≠ none := fun o => by rw [upd_same]; exact some_ne
    have tx5 : t5 x = none := (M5.tag x (lx2 _)).trans ((mark_ne nD1x.symm).trans tx2)
    have nD2x : D2 ≠ x := fun e => by rw [e, upd_same] at nD2; cases nD2
    intro y dy ny nd ne
    refine ⟨y, dy, rfl, upd_same, fun H7 l b hl h1 h2 => ⟨rfl, ?_⟩⟩
    have S7 := Same.made ny nd b
    have hx7 := S7 _ _ upd_same
    refine ⟨_, rfl, x, _, dx, _, rfl, hx7, T.cl_Market, T.na_Market_net, few, ?_⟩
    have nyl : l ≠ y := fun e => by rw [e, upd_same] at hl; cases hl
    have nldy : l ≠ dy := fun e => by rw [upd_ne nyl, e, upd_same] at hl; cases hl
    rw [upd_ne nyl, upd_ne nldy] at hl
    have nlx : l ≠ x := fun e => by rw [e, upd_same] at hl; cases hl
    have nl5 : H5 l = none := by rw [upd_ne nlx] at hl; exact hl
    have nyx : y ≠ x := fun e => by rw [e, upd_same] at ny; cases ny
    have ny5 : H5 y = none := by rw [upd_ne nyx] at ny; exact ny
    have nyD2 : y ≠ D2 := (ne_of_none M5.lst ny5).symm
    have nlD2 : l ≠ D2 := (ne_of_none M5.lst nl5).symm
    let tA : Tg := mark t5 D2 .fix
    let tB : Tg := mark (mark tA y .net) l .msgs
    have tAx : tA x = none := (mark_ne nD2x.symm).trans tx5
    have tBx : tB x = none := ((mark_ne nlx.symm).trans (mark_ne nyx.symm)).trans tAx
    have v1 : ∀ o : HO, Mv t2 (mark t2 D1 .fix) H2 (upd H2 x o) := fun o => Mv.trans (Mv.other tx2) (Mv.tag M.tD)
    have v2 : Mv (mark t2 D1 .fix) t5 _ H5 := Mv.of M5.grow M5.tag
    have v3 : ∀ o : HO, Mv t5 tA H5 (upd H5 x o) := fun o => Mv.trans (Mv.other tx5) (Mv.tag M5.tD)
    have v4 : Mv tA tB _ H7 := Mv.of S7 fun z hz => by
      show mark (mark tA y .net) l .msgs z = tA z
      rw [mark_ne (fun e => hz (by rw [e]; exact hl)), mark_ne (fun e => hz (by rw [e]; exact ny))]
    have v5 : ∀ o : HO, Mv tB (mark tB x .mkt) H7 (upd H7 x o) := fun o => Mv.trans (Mv.other tBx) (Mv.tag tBx)
    have u5 : ∀ o : HO, Mv t5 (mark tB x .mkt) H5 (upd H7 x o) := fun o => ((v3 _).trans v4).trans (v5 o)
    have u3 : ∀ o : HO, Mv (mark t2 D1 .fix) (mark tB x .mkt) _ (upd H7 x o) := fun o => v2.trans (u5 o)
    have en : (net0 n q g).parties.length = n := List.length_replicate ..
    have eh : (net0 n q g).held.length = n := List.length_replicate ..
    have hD1 := u3 (.ins a.cMkt dx (kf n q g 0 false D1 D2 y)) D1 .fix _ mark_same (by rw [upd_ne nD1x]; exact M.lst)
    have hD2 := ((v4.trans (v5 (.ins a.cMkt dx (kf n q g 0 false D1 D2 y)))) D2 .fix _ mark_same (by rw [upd_ne nD2x]; exact M5.lst))
    have hy7 := v5 (.ins a.cMkt dx (kf n q g 0 false D1 D2 y)) y .net _ (by show mark (mark tA y .net) l .msgs y = _; rw [mark_ne nyl.symm, mark_same]) h2
    have hl7 := v5 (.ins a.cMkt dx (kf n q g 0 false D1 D2 y)) l .msgs _ mark_same h1
    refine k (upd H7 x (.ins a.cMkt dx (kf n q g 0 false D1 D2 y))) (mark tB x .mkt) ⟨D1, D2, y, l, ps, as, []⟩ ⟨⟨dx, ?_⟩, mark_same, hD1.2, hD1.1, hD2.2, hD2.1, ⟨dy, hy7.2⟩, hy7.1, hl7.2, hl7.1, ?_, ?_, rfl, fun i z w h3 h4 => ?_, fun i z w h3 h4 => ?_, (fun i z w h3 h4 => nomatch h3), fun z hz => ?_, ?_⟩ (fun z o e hz => ?_) (fun z hz hzx => ?_)
    · rw [upd_same, en]
      rfl
    · rw [en]
      exact hps
    · rw [eh]
      exact has
    · have e : w = {} := by
        have h4' : (List.replicate n ({} : Party))[i]? = some w := h4
        rw [List.getElem?_replicate] at h4'
        split at h4' <;> cases h4'
        rfl
      rw [e]
      exact (M.pt i z h3).mv ((v1 _).trans (u3 _))
    · have e : w = {} := by
        have h4' : (List.replicate n ({} : Held))[i]? = some w := h4
        rw [List.getElem?_replicate] at h4'
        split at h4' <;> cases h4'
        rfl
      rw [e]
      exact (M5.ac i z h3).mv (u5 _)
    · have zx : z ≠ x := fun e => by rw [e, upd_same] at hz; cases hz
      rw [upd_ne zx] at hz
      have zl : z ≠ l := fun e => by rw [e, h1] at hz; cases hz
      have zy : z ≠ y := fun e => by rw [e, h2] at hz; cases hz
      have z6 := S7.free hz
      rw [upd_ne zx] at z6
      have zD : z ≠ D2 := fun e => by rw [e, M5.lst] at z6; cases z6
      rw [mark_ne zx]
      show mark (mark (mark t5 D2 .fix) y .net) l .msgs z = none
      rw [mark_ne zl, mark_ne zy, mark_ne zD]
      exact M5.tl z z6
    · refine ⟨by rw [en]; exact hn2, by rw [en]; exact hn4, by rw [en, eh], hq1, hq3, fun i w h4 => ?_, fun i w h4 => ?_, (fun m hm => nomatch hm), Nat.zero_le _⟩
      · have h4' : (List.replicate n ({} : Party))[i]? = some w := h4
        rw [List.getElem?_replicate] at h4'
        split at h4' <;> cases h4'
        exact ⟨GM.Ok.nil i, GM.Ok.nil i, (fun l e => nomatch e)⟩
      · have h4' : (List.replicate n ({} : Held))[i]? = some w := h4
        rw [List.getElem?_replicate] at h4'
        split at h4' <;> cases h4'
        exact GM.Ok.nil i
    · rw [upd_ne hz]
      refine S7 _ _ ?_
      rw [upd_ne hz]
      refine M5.grow _ _ ?_
      rw [upd_ne hz]
      refine M.grow _ _ ?_
      rw [upd_ne hz]
      exact e
    · have l1 : ∀ {H1 H2 : Hp} {z : Addr}, Same H1 H2 → H1 z ≠ none → H2 z ≠ none := fun {H1 H2 z} S h => by
        cases e : H1 z with
        | none => exact absurd e h
        | some o => exact live_of (S _ _ e)
      have z1 : ∀ o : HO, upd H x o z ≠ none := fun o => by rw [upd_ne hzx]; exact hz
      have z2 : H2 z ≠ none := l1 M.grow (z1 _)
      have z3 : ∀ o : HO, upd H2 x o z ≠ none := fun o => by rw [upd_ne hzx]; exact z2
      have z5 : H5 z ≠ none := l1 M5.grow (z3 _)
      have e1 : t2 z = t z := M.tag z (z1 _)
      have e2 : t5 z = mark t2 D1 .fix z := M5.tag z (z3 _)
      have nz1 : z ≠ D1 := fun e => (z1 _) (by rw [e]; exact nD1)
      have nz2 : z ≠ D2 := fun e => (z3 _) (by rw [e]; exact nD2)
      rw [mark_ne hzx]
      show mark (mark (mark t5 D2 .fix) y .net) l .msgs z = t z
      rw [mark_ne (fun e => z5 (by rw [e]; exact nl5)), mark_ne (fun e => z5 (by rw [e]; exact ny5)), mark_ne nz2, e2, mark_ne nz1, e1]
end
end G
end
section
set_option Elab.async false
set_option linter.all false
set_option maxRecDepth 100000
set_option maxHeartbeats 1000000
namespace G
open PySem PySem.Spec PyProof.Rows L2
open GM (WF MsgOk Srt)
open Vbemar (onNet)
section
variable {P : Program} {w : World} {K : PySem.W.Frag} {mg : Str → Option Value} {base : Heap} {a : Ad}
def HdQ (a : Ad) (H : Hp) (t : Tg) (N : Net) (c : Vbemar.Call) (m : Addr) (Q : VK) : Prop := ∀ (H' : Hp) (t' : Tg) (L' : Lyt) (p : Addr), Rep a.toAdr H' t' m L' (onNet N c).1 → H' p = some (.lst ((onNet N c).2.map V.int)) → t' p = none → H p = none → Fm t t' H H' → Q (.ref p) H'
def sp_hd (a : Ad) (R : Net → List Int → Vbemar.Call → Prop) : Sp := fun vs H Q _ => ∃ (t : Tg) (m : Addr) (L : Lyt) (N : Net) (nl : Addr) (ns : List Int) (c : Vbemar.Call), vs = [.ref m, .ref nl] ∧ Rep a.toAdr H t m L N ∧ H nl = some (.lst (ns.map V.int)) ∧ t nl = none ∧ R N ns c ∧ HdQ a H t N c m Q
theorem fin_ans {H0 H : Hp} {t0 t : Tg} {m : Addr} {L : Lyt} {N N' : Net} {c : Vbemar.Call} {Q : VK} {p : Addr} {l : List Int} (k : HdQ a H0 t0 N c m Q) (e : onNet N c = (N', l)) (r : Rep a.toAdr H t m L N') (f : Fm t0 t H0 H) (hp : H p = none) :
    Q (.ref p) (upd H p (.lst (l.map V.int))) := by
  obtain ⟨g, tl⟩ := grow0 (o := .lst (l.map V.int)) r.tl hp
  refine k _ t L p ?_ ?_ (r.tl p hp) ?_ (f.trans g.fm)
  · rw [e]
    exact r.grow g tl
  · rw [e, upd_same]
  · cases e0 : H0 p with
    | none => rfl
    | some o => exact absurd hp (f.live p (live_of e0))
def r_p (mk : Int → Vbemar.Call) : Net → List Int → Vbemar.Call → Prop := fun N ns c => ∃ p, ns = [p] ∧ c = mk p ∧ 1 ≤ p ∧ ¬ (N.parties.length : Int) < p
def r_k (mk : Int → Vbemar.Call) : Net → List Int → Vbemar.Call → Prop := fun _ ns c => ∃ k, ns = [k] ∧ c = mk k ∧ 1 ≤ k ∧ k ≤ 40
theorem nat_of {p : Int} (h : 1 ≤ p) : ∃ i : Nat, p = (i : Int) + 1 := ⟨(p - 1).toNat, by omega⟩
def r_write : Net → List Int → Vbemar.Call → Prop := fun N ns c => ∃ p r q x, ns = [p, r, q, x] ∧ c = .write p r q x ∧ (1 ≤ p ∧ ¬ (N.parties.length : Int) < p) ∧ (1 ≤ r ∧ r ≤ 4) ∧ (1 ≤ q ∧ q ≤ 3)
theorem missing_iff {N : Net} {p : Int} : Vbemar.missing N p = true ↔ (N.parties.length : Int) < p := by
  unfold Vbemar.missing Vbemar.count
  rw [decide_eq_true_eq]
theorem ok_write_call (T : Txt K mg a) : FnOk P w K mg base CX0 3 a.f_write_call a.d_write_call ["market", "numbers"] (sp_hd a r_write) := by
  refine T.write_call.fn.ok sc_write_call (fun vs H Q E h => ?_) (fun cdv A outer s H vs Q E hr h => ?_)
  · obtain ⟨t, m, L, N, nl, ns, c, rfl, _⟩ := h
    rfl
  · obtain ⟨t, m, L, N, nl, ns, c, rfl, r, hnl, tnl, ⟨p, o, q, x, rfl, rfl, ⟨hp1, c1⟩, ⟨ho1, ho4⟩, ⟨hq1, hq3⟩⟩, k⟩ := h
    obtain ⟨dm, hm⟩ := r.mkt
    refine ⟨_, (pss_cons (ps_set (i := 2) sc_write_call.nd rfl (Or.inl rfl) (pe_ix ix_list (pv 1) pe_int (fun _ _ => rfl))) (pss_cons (ps_set (i := 3) sc_write_call.nd rfl (Or.inl rfl) (pe_ix ix_list (pv 1) pe_int (fun _ _ => rfl))) (pss_cons (ps_set (i := 4) sc_write_call.nd rfl (Or.inl rfl) (pe_ix ix_list (pv 1) pe_int (fun _ _ => rfl))) (pss_cons (ps_if (pw_or (pt_cmpR op_gt (pv 3) (pe_fld (pv 0) rfl) (nomark _)) (pw_or1 (pt_cmpR op_eq (pv 2) (pv 3) (nomark _)))).pt (pss_one (ps_ret (pe_lst (pa_cons (pe_gint T.c_NO_SUCH_PARTY) pa_nil)))) pss_nil) (pss_cons (ps_if (pt_cmpR op_gt (pv 4) (pe_fld (pv 0) rfl) (nomark _)) (pss_one (ps_ret (pe_lst (pa_cons (pe_gint T.c_NO_SUCH_QUARTER) pa_nil)))) pss_nil) (pss_cons (ps_expr (pe_call (ok_write_amount T) (hr.mono (by decide)) (by rfl) T.write_amount.mg T.write_amount.fn.kp T.write_amount.bd .nil pass0 (pa_cons (pe_fld (pe_meth (pv 0) T.cl_Market T.Market_party_of.me (ok_Market_party_of T) (hr.mono (by decide)) T.Market_party_of.bd .nil pass0 (pa_cons (pv 2) pa_nil)) rfl) (pa_cons (pv 3) (pa_cons (pv 4) (pa_cons (pe_ix ix_list (pv 1) pe_int (fun _ _ => rfl)) pa_nil)))))) (pss_one (ps_ret (pe_lst (pa_cons (pe_gint T.c_ACCEPTED) pa_nil)))))))))), ?_⟩
    refine ⟨_, rfl, nl, _, _, _, rfl, rfl, SqL.of hnl, at_of (j := 0) rfl rfl, ?_⟩
    refine ⟨_, rfl, nl, _, _, _, rfl, rfl, SqL.of hnl, at_of (j := 1) rfl rfl, ?_⟩
    refine ⟨_, rfl, nl, _, _, _, rfl, rfl, SqL.of hnl, at_of (j := 2) rfl rfl, ?_⟩
    have e3 : Vbemar.missing N p = true ∨ Vbemar.missing N o = true ∨ p = o → onNet N (.write p o q x) = (N, [-3]) := fun h => if_pos h
    by_cases c2 : (N.parties.length : Int) < o
    · exact ⟨_, rfl, _, rfl, m, _, dm, _, _, rfl, hm, T.cl_Market, T.na_Market_party_count, rfl, _, _, rfl, rfl, _, rfl, dT c2 ⟨(by show 1 ≤ sizeLine; decide), fun b hb => fin_ans k (e3 (.inr (.inl (missing_iff.mpr c2)))) r (Fm.refl _ _) hb⟩⟩
    by_cases c3 : p = o
    · exact ⟨_, rfl, _, rfl, m, _, dm, _, _, rfl, hm, T.cl_Market, T.na_Market_party_count, rfl, _, _, rfl, rfl, _, rfl, dF c2 ⟨_, rfl, _, rfl, rfl, _, rfl, dT (by rw [c3]) ⟨(by show 1 ≤ sizeLine; decide), fun b hb => fin_ans k (e3 (.inr (.inr c3))) r (Fm.refl _ _) hb⟩⟩⟩
    refine ⟨_, rfl, _, rfl, m, _, dm, _, _, rfl, hm, T.cl_Market, T.na_Market_party_count, rfl, _, _, rfl, rfl, _, rfl, dF c2 ⟨_, rfl, _, rfl, rfl, _, rfl, dF (ne_int c3) ?_⟩⟩
    have n3 : ¬ (Vbemar.missing N p = true ∨ Vbemar.missing N o = true ∨ p = o) := by rw [missing_iff, missing_iff]; omega
    by_cases c4 : (N.quarters : Int) < q
    · have e4 : onNet N (.write p o q x) = (N, [-4]) := by
        show (if _ then _ else if N.quarters < q.toNat then _ else _) = _
        rw [if_neg n3, if_pos (by omega)]
      exact ⟨_, rfl, _, rfl, m, _, dm, _, _, rfl, hm, T.cl_Market, T.na_Market_quarter_count, rfl, _, _, rfl, rfl, _, rfl, dT c4 ⟨(by show 1 ≤ sizeLine; decide), fun b hb => fin_ans k e4 r (Fm.refl _ _) hb⟩⟩
    obtain ⟨i, rfl⟩ := nat_of hp1
    obtain ⟨j, rfl⟩ := nat_of ho1
    obtain ⟨z, rfl⟩ := nat_of hq1
    have hi : i < N.parties.length := by omega
    have e0 : onNet N (.write ((i : Int) + 1) ((j : Int) + 1) ((z : Int) + 1) x) = (Vbemar.setParty N i fun y => { y with draft := Vbemar.put { to := j, q := z, amount := x } y.draft }, [0]) := by
      show (if _ then _ else if N.quarters < _ then _ else _) = _
      rw [if_neg n3, if_neg (by omega), GM.at_succ, GM.at_succ, GM.at_succ]
    obtain ⟨y, hy, dy, d, sn, b, hyp, ty, ⟨us, hus, tus, pus⟩, hs, hb⟩ := r.ptAt hi
    have po := r.wf.po i _ (GM.party_at hi)
    have hn4 := r.wf.n4
    refine ⟨_, rfl, _, rfl, m, _, dm, _, _, rfl, hm, T.cl_Market, T.na_Market_quarter_count, rfl, _, _, rfl, rfl, _, rfl, dF c4 ?_⟩
    refine ⟨_, rfl, m, dm, _, rfl, hm, rfl, _, rfl, t, m, L, N, i, y, rfl, r, hy, y, _, dy, _, _, rfl, hyp, T.cl_Party, T.na_Party_draft, rfl, _, rfl, _, rfl, _, rfl, nl, _, _, _, rfl, rfl, SqL.of hnl, at_of (j := 3) rfl rfl,
      d, { to := j, q := z, amount := x }, us, rfl, hus, ?_, fun H1 b1 h1 => ?_⟩
    · have := po.draft.srt.short
      rw [pus.length_eq]
      omega
    · have off : Off (some (.drf i)) t H H1 := fun b o e k => b1 b o e fun z => k (by rw [z]; exact tus)
      have tl1 : ∀ b, H1 b = none → t b = none := fun b hb => by
        cases e : H b with
        | none => exact r.tl b e
        | some o =>
          by_cases z : b = d
          · rw [z, h1] at hb
            cases hb
          · rw [b1 b o e z] at hb
            cases hb
      have fm1 : Fm t t H H1 := by
        refine ⟨fun b o e k => b1 b o e fun z => ?_, fun _ _ => rfl, fun b hb => ?_⟩
        · rw [z, tus] at k
          rcases k with k | k <;> cases k
        · cases e : H b with
          | none => exact absurd e hb
          | some o =>
            by_cases z : b = d
            · rw [z, h1]
              exact some_ne
            · rw [b1 b o e z]
              exact some_ne
      have r1 : Rep a.toAdr H1 t m L (Vbemar.setParty N i fun y => { y with draft := Vbemar.put { to := j, q := z, amount := x } y.draft }) := by
        refine r.draft hy (GM.party_at hi) off tl1 ⟨dy, d, sn, b, off _ _ hyp (by rw [ty]; exact fun e => nomatch e), ty, ⟨_, h1, tus, wr_perm pus po.draft.srt _⟩, hs.off off, hb.off off (fun e => nomatch e)⟩ ⟨po.draft.put ⟨by show j < 4; omega, by show z < 3; omega⟩ (by show j ≠ i; omega), po.sent, po.final⟩
      exact ⟨(by show 1 ≤ sizeLine; decide), fun b hb => fin_ans k e0 r1 fm1 hb⟩
theorem ok_clear_call (T : Txt K mg a) : FnOk P w K mg base CX0 2 a.f_clear_call a.d_clear_call ["market", "numbers"] (sp_hd a (r_p .clear)) := by
  refine T.clear_call.fn.ok sc_clear_call (fun vs H Q E h => ?_) (fun cdv A outer s H vs Q E hr h => ?_)
  · obtain ⟨t, m, L, N, nl, ns, c, rfl, _⟩ := h
    rfl
  · obtain ⟨t, m, L, N, nl, ns, c, rfl, r, hnl, tnl, ⟨p, rfl, rfl, hp1, c1⟩, k⟩ := h
    obtain ⟨dm, hm⟩ := r.mkt
    refine ⟨_, (pss_cons (ps_set (i := 2) sc_clear_call.nd rfl (Or.inl rfl) (pe_meth (pv 0) T.cl_Market T.Market_party_of.me (ok_Market_party_of T) (hr.mono (by decide)) T.Market_party_of.bd .nil pass0 (pa_cons (pe_ix ix_list (pv 1) pe_int (fun _ _ => rfl)) pa_nil))) (pss_cons (ps_fld (pv 2) pe_dnewT rfl) (pss_one (ps_ret (pe_lst (pa_cons (pe_gint T.c_ACCEPTED) pa_nil)))))), ?_⟩
    obtain ⟨i, rfl⟩ := nat_of hp1
    have hi : i < N.parties.length := by omega
    have e0 : onNet N (.clear ((i : Int) + 1)) = (Vbemar.setParty N i fun y => { y with draft := [] }, [0]) := by
      show (if _ then _ else _) = _
      rw [if_neg (by rw [missing_iff]; exact c1), GM.at_succ]
    obtain ⟨y, hy, dy, d, sn, b, hyp, ty, hd, hs, hb⟩ := r.ptAt hi
    have po := r.wf.po i _ (GM.party_at hi)
    refine ⟨_, rfl, m, dm, _, rfl, hm, rfl, _, rfl, nl, _, _, _, rfl, rfl, SqL.of hnl, at_of (j := 0) rfl rfl, t, m, L, N, i, y, rfl, r, hy, ?_⟩
    intro e he
    refine ⟨_, rfl, y, _, dy, _, rfl, same_new he _ _ hyp, T.cl_Party, T.na_Party_draft, few, ?_⟩
    obtain ⟨g, tl⟩ := grow1 (g := .drf i) (o := .dT []) r.tl he
    have ney : e ≠ y := (ne_of_none hyp he).symm
    have ty1 : mark t e (.drf i) y = some (.pty i) := by rw [mark_ne ney.symm]; exact ty
    have off : ∀ o : HO, Off (some (.pty i)) (mark t e (.drf i)) (upd H e (.dT [])) (upd (upd H e (.dT [])) y o) := fun o => Off.upd ty1
    have r1 : Rep a.toAdr (upd (upd H e (.dT [])) y (.ins a.cPty dy (pf e sn (Vbemar.party N i).version (Vbemar.party N i).acked (Vbemar.party N i).waits (Vbemar.party N i).tooLate b))) (mark t e (.drf i)) m L (Vbemar.setParty N i fun y => { y with draft := [] }) :=
      (r.grow g tl).party hy (GM.party_at hi) ⟨dy, e, sn, b, upd_same, ty1, ⟨[], by rw [upd_ne ney]; exact upd_same, mark_same, .refl _⟩, (hs.grow g).off (off _), (hb.grow g).off (off _) (fun e => nomatch e)⟩ ⟨GM.Ok.nil i, po.sent, po.final⟩
    exact ⟨(by show 1 ≤ sizeLine; decide), fun b hb => fin_ans k e0 r1 (g.fm.trans (Fm.upd (by rw [ty1]; exact some_ne) (by rw [ty1]; exact fun e => nomatch e))) hb⟩
theorem ok_send_call (T : Txt K mg a) : FnOk P w K mg base CX0 5 a.f_send_call a.d_send_call ["market", "numbers"] (sp_hd a (r_p .send)) := by
  refine T.send_call.fn.ok sc_send_call (fun vs H Q E h => ?_) (fun cdv A outer s H vs Q E hr h => ?_)
  · obtain ⟨t, m, L, N, nl, ns, c, rfl, _⟩ := h
    rfl
  · obtain ⟨t, m, L, N, nl, ns, c, rfl, r, hnl, tnl, ⟨p, rfl, rfl, hp1, c1⟩, k⟩ := h
    obtain ⟨dm, hm⟩ := r.mkt
    refine ⟨_, (pss_cons (ps_set (i := 2) sc_send_call.nd rfl (Or.inl rfl) (pe_ix ix_list (pv 1) pe_int (fun _ _ => rfl))) (pss_cons (ps_set (i := 3) sc_send_call.nd rfl (Or.inl rfl) (pe_meth (pv 0) T.cl_Market T.Market_party_of.me (ok_Market_party_of T) (hr.mono (by decide)) T.Market_party_of.bd .nil pass0 (pa_cons (pv 2) pa_nil))) (pss_cons (ps_if (pt_cmpR op_ge (pe_fld (pv 3) rfl) (pe_gint T.c_LAST_VERSION) (nomark _)) (pss_one (ps_ret (pe_lst (pa_cons (pe_gint T.c_NO_MORE_VERSIONS) pa_nil)))) pss_nil) (pss_cons (ps_expr (pe_call (ok_send T) (hr.mono (by decide)) (by rfl) T.send.mg T.send.fn.kp T.send.bd .nil pass0 (pa_cons (pv 0) (pa_cons (pv 2) pa_nil)))) (pss_one (ps_ret (pe_lst (pa_cons (pe_gint T.c_ACCEPTED) (pa_cons (pe_fld (pv 3) rfl) pa_nil))))))))), ?_⟩
    refine ⟨_, rfl, nl, _, _, _, rfl, rfl, SqL.of hnl, at_of (j := 0) rfl rfl, ?_⟩
    obtain ⟨i, rfl⟩ := nat_of hp1
    have hi : i < N.parties.length := by omega
    obtain ⟨y, hy, dy, d, sn, b, hyp, ty, hd, hs, hb⟩ := r.ptAt hi
    refine ⟨_, rfl, m, dm, _, rfl, hm, rfl, _, rfl, t, m, L, N, i, y, rfl, r, hy, ?_⟩
    by_cases c2 : 50 ≤ (Vbemar.party N i).version
    · have e5 : onNet N (.send ((i : Int) + 1)) = (N, [-5]) := by
        show (if _ then _ else if Vbemar.VERSIONS ≤ _ then _ else _) = _
        rw [if_neg (by rw [missing_iff]; exact c1), GM.at_succ, if_pos (show Vbemar.VERSIONS ≤ (Vbemar.party N i).version from c2)]
      exact ⟨_, rfl, y, _, dy, _, _, rfl, hyp, T.cl_Party, T.na_Party_version, rfl, _, _, rfl, rfl, _, rfl, dT (by show (50 : Int) ≤ ((Vbemar.party N i).version : Int); omega) ⟨(by show 1 ≤ sizeLine; decide), fun b hb => fin_ans k e5 r (Fm.refl _ _) hb⟩⟩
    have e0 : onNet N (.send ((i : Int) + 1)) = (Vbemar.post (Vbemar.setParty N i sent1) (.doc i (Vbemar.party (Vbemar.setParty N i sent1) i).version (Vbemar.party (Vbemar.setParty N i sent1) i).sent), [0, ((Vbemar.party (Vbemar.setParty N i sent1) i).version : Int)]) := by
      show (if _ then _ else if Vbemar.VERSIONS ≤ _ then _ else _) = _
      rw [if_neg (by rw [missing_iff]; exact c1), GM.at_succ, if_neg (show ¬ Vbemar.VERSIONS ≤ (Vbemar.party N i).version from c2)]
      rfl
    refine ⟨_, rfl, y, _, dy, _, _, rfl, hyp, T.cl_Party, T.na_Party_version, rfl, _, _, rfl, rfl, _, rfl, dF (by show ¬ (50 : Int) ≤ ((Vbemar.party N i).version : Int); omega) ?_⟩
    refine ⟨_, rfl, _, rfl, t, m, L, N, i, rfl, r, hi, fun H1 t1 ms1 r1 f1 => ?_⟩
    have hi1 : i < (Vbemar.setParty N i sent1).parties.length := by show i < (N.parties.modify i sent1).length; rw [List.length_modify]; exact hi
    have hpp : (Vbemar.post (Vbemar.setParty N i sent1) (.doc i (Vbemar.party (Vbemar.setParty N i sent1) i).version (Vbemar.party (Vbemar.setParty N i sent1) i).sent)).parties[i]? = some (Vbemar.party (Vbemar.setParty N i sent1) i) := by
      rw [GM.post_parties]
      exact GM.party_at hi1
    obtain ⟨dy1, d1, sn1, b1, hyp1, _⟩ := r1.pt i y _ hy hpp
    exact ⟨_, rfl, y, _, dy1, _, _, rfl, hyp1, T.cl_Party, T.na_Party_version, rfl, (by show 2 ≤ sizeLine; decide), fun b hb => fin_ans k e0 r1 f1 hb⟩
def sp_as_number : Sp := fun vs H Q _ => ∃ b : Bool, vs = [.bl b] ∧ Q (.int (Vbemar.bit b)) H
theorem ok_as_number (T : Txt K mg a) : FnOk P w K mg base CX0 1 a.f_as_number a.d_as_number ["truth"] sp_as_number := by
  refine T.as_number.fn.ok sc_as_number (fun vs H Q E h => ?_) (fun cdv A outer s H vs Q E hr h => ?_)
  · obtain ⟨b, rfl, _⟩ := h
    rfl
  · obtain ⟨b, rfl, k⟩ := h
    refine ⟨_, (pss_one (ps_ret (pe_ifExp (pt_truth (pv 0) (fun _ => rfl)) pe_int pe_int))), ?_⟩
    cases b with
    | true => exact ⟨_, rfl, _, rfl, iteT k⟩
    | false => exact ⟨_, rfl, _, rfl, iteF k⟩
def tellT (N : Net) : List Int := [0, (N.now : Int), Vbemar.bit N.closed, (N.flying.length : Int)]
def sp_tell (a : Ad) : Sp := fun vs H Q _ => ∃ (t : Tg) (m : Addr) (L : Lyt) (N : Net), vs = [.ref m] ∧ Rep a.toAdr H t m L N ∧ ∀ p, H p = none → Q (.ref p) (upd H p (.lst ((tellT N).map V.int)))
theorem ok_tell_tick (T : Txt K mg a) : FnOk P w K mg base CX0 2 a.f_tell_tick a.d_tell_tick ["market"] (sp_tell a) := by
  refine T.tell_tick.fn.ok sc_tell_tick (fun vs H Q E h => ?_) (fun cdv A outer s H vs Q E hr h => ?_)
  · obtain ⟨t, m, L, N, rfl, _⟩ := h
    rfl
  · obtain ⟨t, m, L, N, rfl, r, k⟩ := h
    obtain ⟨dm, hm⟩ := r.mkt
    obtain ⟨dn, hn⟩ := r.nn
    refine ⟨_, (pss_one (ps_ret (pe_lst (pa_cons (pe_gint T.c_ACCEPTED) (pa_cons (pe_fld (pv 0) rfl) (pa_cons (pe_call (ok_as_number T) (hr.mono (by decide)) (by rfl) T.as_number.mg T.as_number.fn.kp T.as_number.bd .nil pass0 (pa_cons (pe_fld (pv 0) rfl) pa_nil)) (pa_cons (pe_meth0 (pe_fld (pv 0) rfl) T.cl_Net T.Net_under_way.me (ok_Net_under_way T) (hr.mono (by decide)) T.Net_under_way.bd .nil pass0) pa_nil))))))), ?_⟩
    exact ⟨_, rfl, m, _, dm, _, _, rfl, hm, T.cl_Market, T.na_Market_time, rfl, _, rfl, m, _, dm, _, _, rfl, hm, T.cl_Market, T.na_Market_closed, rfl, _, rfl, _, rfl, m, _, dm, _, _, rfl, hm, T.cl_Market, T.na_Market_net, rfl, L.nn, dn, _, rfl, hn, rfl, t, m, L, N, rfl, r, (by show 4 ≤ sizeLine; decide), k⟩
def r_tick : Net → List Int → Vbemar.Call → Prop := fun _ ns c => ns = [] ∧ c = .tick
theorem ok_tick_call (T : Txt K mg a) : FnOk P w K mg base CX0 6 a.f_tick_call a.d_tick_call ["market", "numbers"] (sp_hd a r_tick) := by
  refine T.tick_call.fn.ok sc_tick_call (fun vs H Q E h => ?_) (fun cdv A outer s H vs Q E hr h => ?_)
  · obtain ⟨t, m, L, N, nl, ns, c, rfl, _⟩ := h
    rfl
  · obtain ⟨t, m, L, N, nl, ns, c, rfl, r, hnl, tnl, ⟨rfl, rfl⟩, k⟩ := h
    refine ⟨_, (pss_cons (ps_expr (pe_call (ok_tick T) (hr.mono (by decide)) (by rfl) T.tick.mg T.tick.fn.kp T.tick.bd .nil pass0 (pa_cons (pv 0) pa_nil))) (pss_one (ps_ret (pe_call (ok_tell_tick T) (hr.mono (by decide)) (by rfl) T.tell_tick.mg T.tell_tick.fn.kp T.tell_tick.bd .nil pass0 (pa_cons (pv 0) pa_nil))))), ?_⟩
    refine ⟨_, rfl, t, m, L, N, rfl, r, fun H1 t1 ms1 r1 f1 => ⟨_, rfl, t1, m, _, _, rfl, r1, fun p hp => ?_⟩⟩
    exact fin_ans (l := tellT (Vbemar.tick N)) k rfl r1 f1 hp
def r_calm : Net → List Int → Vbemar.Call → Prop := fun _ ns c => ∃ n, ns = [n] ∧ c = .calm n ∧ 1 ≤ n ∧ n ≤ 5
theorem ok_calm_call (T : Txt K mg a) : FnOk P w K mg base CX0 7 a.f_calm_call a.d_calm_call ["market", "numbers"] (sp_hd a r_calm) := by
  refine T.calm_call.fn.ok sc_calm_call (fun vs H Q E h => ?_) (fun cdv A outer s H vs Q E hr h => ?_)
  · obtain ⟨t, m, L, N, nl, ns, c, rfl, _⟩ := h
    rfl
  · obtain ⟨t, m, L, N, nl, ns, c, rfl, r, hnl, tnl, ⟨n, rfl, rfl, hn1, hn5⟩, k⟩ := h
    refine ⟨_, (pss_cons (ps_expr (pe_call (ok_calm T) (hr.mono (by decide)) (by rfl) T.calm.mg T.calm.fn.kp T.calm.bd .nil pass0 (pa_cons (pv 0) (pa_cons (pe_ix ix_list (pv 1) pe_int (fun _ _ => rfl)) pa_nil)))) (pss_one (ps_ret (pe_call (ok_tell_tick T) (hr.mono (by decide)) (by rfl) T.tell_tick.mg T.tell_tick.fn.kp T.tell_tick.bd .nil pass0 (pa_cons (pv 0) pa_nil))))), ?_⟩
    have en : n = (n.toNat : Int) := by omega
    refine ⟨_, rfl, _, rfl, nl, _, _, _, rfl, rfl, SqL.of hnl, at_of (j := 0) rfl rfl, t, m, L, N, n.toNat, by rw [← en]; rfl, by omega, r, fun H1 t1 ms1 r1 f1 => ⟨_, rfl, t1, m, _, _, rfl, r1, fun p hp => ?_⟩⟩
    exact fin_ans (l := tellT (Vbemar.calm n.toNat N)) k rfl r1 f1 hp
theorem place_none {N : Net} {i : Nat} (h : N.flying.length < i + 1) : N.flying[i]? = none := List.getElem?_eq_none (by omega)
theorem ok_lose_call (T : Txt K mg a) : FnOk P w K mg base CX0 2 a.f_lose_call a.d_lose_call ["market", "numbers"] (sp_hd a (r_k .lose)) := by
  refine T.lose_call.fn.ok sc_lose_call (fun vs H Q E h => ?_) (fun cdv A outer s H vs Q E hr h => ?_)
  · obtain ⟨t, m, L, N, nl, ns, c, rfl, _⟩ := h
    rfl
  · obtain ⟨t, m, L, N, nl, ns, c, rfl, r, hnl, tnl, ⟨q, rfl, rfl, hk1, hk40⟩, k⟩ := h
    obtain ⟨dm, hm⟩ := r.mkt
    obtain ⟨dn, hn⟩ := r.nn
    obtain ⟨i, rfl⟩ := nat_of hk1
    refine ⟨_, (pss_cons (ps_set (i := 2) sc_lose_call.nd rfl (Or.inl rfl) (pe_ix ix_list (pv 1) pe_int (fun _ _ => rfl))) (pss_cons (ps_if (pt_cmpR op_gt (pv 2) (pe_meth0 (pe_fld (pv 0) rfl) T.cl_Net T.Net_under_way.me (ok_Net_under_way T) (hr.mono (by decide)) T.Net_under_way.bd .nil pass0) (nomark _)) (pss_one (ps_ret (pe_lst (pa_cons (pe_gint T.c_NO_SUCH_MESSAGE) pa_nil)))) pss_nil) (pss_cons (ps_expr (pe_meth (pe_fld (pv 0) rfl) T.cl_Net T.Net_take.me (ok_Net_take T) (hr.mono (by decide)) T.Net_take.bd .nil pass0 (pa_cons (pv 2) pa_nil))) (pss_one (ps_ret (pe_lst (pa_cons (pe_gint T.c_ACCEPTED) pa_nil))))))), ?_⟩
    refine ⟨_, rfl, nl, _, _, _, rfl, rfl, SqL.of hnl, at_of (j := 0) rfl rfl, ?_⟩
    refine ⟨_, rfl, _, rfl, m, _, dm, _, _, rfl, hm, T.cl_Market, T.na_Market_net, rfl, L.nn, dn, _, rfl, hn, rfl, t, m, L, N, rfl, r, _, _, rfl, rfl, _, rfl, ite_dec (fun c1 => ?_) fun c1 => ?_⟩
    · have c2 : N.flying.length < ((i : Int) + 1).toNat := by
        have c1' : (N.flying.length : Int) < (i : Int) + 1 := c1
        omega
      exact ⟨(by show 1 ≤ sizeLine; decide), fun b hb => fin_ans k (if_pos c2) r (Fm.refl _ _) hb⟩
    · have c2 : ¬ N.flying.length < ((i : Int) + 1).toNat := by
        have c1' : ¬ (N.flying.length : Int) < (i : Int) + 1 := c1
        omega
      have hi : i < L.ms.length := by rw [r.lm]; omega
      have e0 : onNet N (.lose ((i : Int) + 1)) = ({ N with flying := N.flying.eraseIdx i }, [0]) := by
        show (if _ then _ else _) = _
        rw [if_neg c2, GM.at_succ]
      refine ⟨_, rfl, m, _, dm, _, _, rfl, hm, T.cl_Market, T.na_Market_net, rfl, L.nn, dn, _, rfl, hn, rfl, _, rfl, t, m, L, N, i, _, rfl, r, List.getElem?_eq_getElem hi, fun H1 r1 f1 => ?_⟩
      exact ⟨(by show 1 ≤ sizeLine; decide), fun b hb => fin_ans k e0 r1 f1 hb⟩
theorem ok_double_call (T : Txt K mg a) : FnOk P w K mg base CX0 4 a.f_double_call a.d_double_call ["market", "numbers"] (sp_hd a (r_k .double)) := by
  refine T.double_call.fn.ok sc_double_call (fun vs H Q E h => ?_) (fun cdv A outer s H vs Q E hr h => ?_)
  · obtain ⟨t, m, L, N, nl, ns, c, rfl, _⟩ := h
    rfl
  · obtain ⟨t, m, L, N, nl, ns, c, rfl, r, hnl, tnl, ⟨q, rfl, rfl, hk1, hk40⟩, k⟩ := h
    obtain ⟨dm, hm⟩ := r.mkt
    obtain ⟨dn, hn⟩ := r.nn
    obtain ⟨i, rfl⟩ := nat_of hk1
    refine ⟨_, (pss_cons (ps_set (i := 2) sc_double_call.nd rfl (Or.inl rfl) (pe_ix ix_list (pv 1) pe_int (fun _ _ => rfl))) (pss_cons (ps_if (pt_cmpR op_gt (pv 2) (pe_meth0 (pe_fld (pv 0) rfl) T.cl_Net T.Net_under_way.me (ok_Net_under_way T) (hr.mono (by decide)) T.Net_under_way.bd .nil pass0) (nomark _)) (pss_one (ps_ret (pe_lst (pa_cons (pe_gint T.c_NO_SUCH_MESSAGE) pa_nil)))) pss_nil) (pss_cons (ps_if (pt_truth (pe_meth0 (pe_fld (pv 0) rfl) T.cl_Net T.Net_full.me (ok_Net_full T) (hr.mono (by decide)) T.Net_full.bd .nil pass0) (fun _ => rfl)) (pss_one (ps_ret (pe_lst (pa_cons (pe_gint T.c_NET_IS_FULL) pa_nil)))) pss_nil) (pss_cons (ps_expr (pe_meth (pe_fld (pv 0) rfl) T.cl_Net T.Net_double.me (ok_Net_double T) (hr.mono (by decide)) T.Net_double.bd .nil pass0 (pa_cons (pv 2) pa_nil))) (pss_one (ps_ret (pe_lst (pa_cons (pe_gint T.c_ACCEPTED) pa_nil)))))))), ?_⟩
    refine ⟨_, rfl, nl, _, _, _, rfl, rfl, SqL.of hnl, at_of (j := 0) rfl rfl, ?_⟩
    have e0 : onNet N (.double ((i : Int) + 1)) = match N.flying[i]? with
        | none => (N, [-6])
        | some m => if Vbemar.ROOM ≤ N.flying.length then (N, [-7]) else (Vbemar.post N m, [0]) := by
      show (match N.flying[Vbemar.at_ ((i : Int) + 1)]? with
        | none => (N, [-6])
        | some m => if Vbemar.ROOM ≤ N.flying.length then (N, [-7]) else (Vbemar.post N m, [0])) = _
      rw [GM.at_succ]
    refine ⟨_, rfl, _, rfl, m, _, dm, _, _, rfl, hm, T.cl_Market, T.na_Market_net, rfl, L.nn, dn, _, rfl, hn, rfl, t, m, L, N, rfl, r, _, _, rfl, rfl, _, rfl, ite_dec (fun c1 => ?_) fun c1 => ?_⟩
    · have c1' : (N.flying.length : Int) < (i : Int) + 1 := c1
      rw [place_none (by omega)] at e0
      exact ⟨(by show 1 ≤ sizeLine; decide), fun b hb => fin_ans k e0 r (Fm.refl _ _) hb⟩
    · have c1' : ¬ (N.flying.length : Int) < (i : Int) + 1 := c1
      have hi : i < N.flying.length := by omega
      have hy : N.flying[i]? = some _ := List.getElem?_eq_getElem hi
      rw [hy] at e0
      refine ⟨_, rfl, m, _, dm, _, _, rfl, hm, T.cl_Market, T.na_Market_net, rfl, L.nn, dn, _, rfl, hn, rfl, t, m, L, N, rfl, r, _, rfl, ?_⟩
      by_cases c2 : 40 ≤ N.flying.length
      · rw [decide_eq_true c2]
        have e1 := e0.trans (if_pos (show Vbemar.ROOM ≤ N.flying.length from c2))
        exact ⟨(by show 1 ≤ sizeLine; decide), fun b hb => fin_ans k e1 r (Fm.refl _ _) hb⟩
      · rw [decide_eq_false c2]
        have e1 := e0.trans (if_neg (show ¬ Vbemar.ROOM ≤ N.flying.length from c2))
        refine ⟨_, rfl, m, _, dm, _, _, rfl, hm, T.cl_Market, T.na_Market_net, rfl, L.nn, dn, _, rfl, hn, rfl, _, rfl, t, m, L, N, i, _, rfl, r, hy, fun H1 ms1 r1 f1 => ?_⟩
        exact ⟨(by show 1 ≤ sizeLine; decide), fun b hb => fin_ans k e1 r1 f1 hb⟩
theorem ok_deliver_call (T : Txt K mg a) : FnOk P w K mg base CX0 5 a.f_deliver_call a.d_deliver_call ["market", "numbers"] (sp_hd a (r_k .deliver)) := by
  refine T.deliver_call.fn.ok sc_deliver_call (fun vs H Q E h => ?_) (fun cdv A outer s H vs Q E hr h => ?_)
  · obtain ⟨t, m, L, N, nl, ns, c, rfl, _⟩ := h
    rfl
  · obtain ⟨t, m, L, N, nl, ns, c, rfl, r, hnl, tnl, ⟨q, rfl, rfl, hk1, hk40⟩, k⟩ := h
    obtain ⟨dm, hm⟩ := r.mkt
    obtain ⟨dn, hn⟩ := r.nn
    obtain ⟨i, rfl⟩ := nat_of hk1
    refine ⟨_, (pss_cons (ps_set (i := 2) sc_deliver_call.nd rfl (Or.inl rfl) (pe_ix ix_list (pv 1) pe_int (fun _ _ => rfl))) (pss_cons (ps_if (pt_cmpR op_gt (pv 2) (pe_meth0 (pe_fld (pv 0) rfl) T.cl_Net T.Net_under_way.me (ok_Net_under_way T) (hr.mono (by decide)) T.Net_under_way.bd .nil pass0) (nomark _)) (pss_one (ps_ret (pe_lst (pa_cons (pe_gint T.c_NO_SUCH_MESSAGE) pa_nil)))) pss_nil) (pss_cons (ps_set (i := 3) sc_deliver_call.nd rfl (Or.inl rfl) (pe_meth (pe_fld (pv 0) rfl) T.cl_Net T.Net_take.me (ok_Net_take T) (hr.mono (by decide)) T.Net_take.bd .nil pass0 (pa_cons (pv 2) pa_nil))) (pss_cons (ps_expr (pe_call (ok_arrive T) (hr.mono (by decide)) (by rfl) T.arrive.mg T.arrive.fn.kp T.arrive.bd .nil pass0 (pa_cons (pv 0) (pa_cons (pv 3) pa_nil)))) (pss_one (ps_ret (pe_op op_cat (pe_lst (pa_cons (pe_gint T.c_ACCEPTED) pa_nil)) (pe_call (ok_describe T) (hr.mono (by decide)) (by rfl) T.describe.mg T.describe.fn.kp T.describe.bd .nil pass0 (pa_cons (pv 3) pa_nil))))))))), ?_⟩
    refine ⟨_, rfl, nl, _, _, _, rfl, rfl, SqL.of hnl, at_of (j := 0) rfl rfl, ?_⟩
    refine ⟨_, rfl, _, rfl, m, _, dm, _, _, rfl, hm, T.cl_Market, T.na_Market_net, rfl, L.nn, dn, _, rfl, hn, rfl, t, m, L, N, rfl, r, _, _, rfl, rfl, _, rfl, ite_dec (fun c1 => ?_) fun c1 => ?_⟩
    · have c1' : (N.flying.length : Int) < (i : Int) + 1 := c1
      have e0 : onNet N (.deliver ((i : Int) + 1)) = (N, [-6]) := by
        show (match Vbemar.deliver N (Vbemar.at_ ((i : Int) + 1)) with | none => _ | some M => _) = _
        unfold Vbemar.deliver
        rw [GM.at_succ, place_none (by omega)]
      exact ⟨(by show 1 ≤ sizeLine; decide), fun b hb => fin_ans k e0 r (Fm.refl _ _) hb⟩
    · have c1' : ¬ (N.flying.length : Int) < (i : Int) + 1 := c1
      have hi : i < N.flying.length := by omega
      obtain ⟨y, hy⟩ : ∃ y, N.flying[i]? = some y := ⟨_, List.getElem?_eq_getElem hi⟩
      obtain ⟨x, hx, mx⟩ := r.msAt hy
      have e0 : onNet N (.deliver ((i : Int) + 1)) = (Vbemar.arrive { N with flying := N.flying.eraseIdx i } y, 0 :: Vbemar.shownMsg y) := by
        show (match Vbemar.deliver N (Vbemar.at_ ((i : Int) + 1)) with | none => (N, [-6]) | some M => (M, 0 :: match N.flying[Vbemar.at_ ((i : Int) + 1)]? with | some m => Vbemar.shownMsg m | none => [])) = _
        unfold Vbemar.deliver
        rw [GM.at_succ, hy]
      refine ⟨_, rfl, m, _, dm, _, _, rfl, hm, T.cl_Market, T.na_Market_net, rfl, L.nn, dn, _, rfl, hn, rfl, _, rfl, t, m, L, N, i, x, rfl, r, hx, fun H1 r1 f1 => ?_⟩
      have m1 := mx.fm f1
      refine ⟨_, rfl, _, rfl, t, m, _, _, x, y, rfl, r1, m1, r.wf.fl y (List.mem_of_getElem? hy), trivial, fun H2 t2 ms2 r2 f2 => ?_⟩
      have m2 := m1.fm f2
      refine ⟨(by show 1 ≤ sizeLine; decide), fun b hb => ?_⟩
      obtain ⟨g3, tl3⟩ := grow0 (o := .lst [.int 0]) r2.tl hb
      refine ⟨_, rfl, t2, x, y, rfl, m2.grow g3, fun d hd => ?_⟩
      obtain ⟨g4, tl4⟩ := grow0 (o := .lst ((Vbemar.shownMsg y).map V.int)) tl3 hd
      refine ⟨b, d, _, _, rfl, rfl, (by rw [upd_ne (ne_of_none upd_same hd)]; exact upd_same), upd_same, ?_, fun p hp => ?_⟩
      · rw [List.length_map, shown_msg]
        show 1 + 4 ≤ sizeLine
        decide
      · exact fin_ans (l := 0 :: Vbemar.shownMsg y) k e0 ((r2.grow g3 tl3).grow g4 tl4) (((f1.trans f2).trans g3.fm).trans g4.fm) hp
theorem ok_party_call (T : Txt K mg a) : FnOk P w K mg base CX0 2 a.f_party_call a.d_party_call ["market", "numbers"] (sp_hd a (r_p .party)) := by
  refine T.party_call.fn.ok sc_party_call (fun vs H Q E h => ?_) (fun cdv A outer s H vs Q E hr h => ?_)
  · obtain ⟨t, m, L, N, nl, ns, c, rfl, _⟩ := h
    rfl
  · obtain ⟨t, m, L, N, nl, ns, c, rfl, r, hnl, tnl, ⟨p, rfl, rfl, hp1, c1⟩, k⟩ := h
    obtain ⟨dm, hm⟩ := r.mkt
    refine ⟨_, (pss_cons (ps_set (i := 2) sc_party_call.nd rfl (Or.inl rfl) (pe_meth (pv 0) T.cl_Market T.Market_party_of.me (ok_Market_party_of T) (hr.mono (by decide)) T.Market_party_of.bd .nil pass0 (pa_cons (pe_ix ix_list (pv 1) pe_int (fun _ _ => rfl)) pa_nil))) (pss_cons (ps_set (i := 3) sc_party_call.nd rfl (Or.inl rfl) (pe_call (ok_as_number T) (hr.mono (by decide)) (by rfl) T.as_number.mg T.as_number.fn.kp T.as_number.bd .nil pass0 (pa_cons (pe_fld (pv 2) rfl) pa_nil))) (pss_cons (ps_set (i := 4) sc_party_call.nd rfl (Or.inl rfl) (pe_call (ok_as_number T) (hr.mono (by decide)) (by rfl) T.as_number.mg T.as_number.fn.kp T.as_number.bd .nil pass0 (pa_cons (pe_fld (pv 2) rfl) pa_nil))) (pss_cons (ps_set (i := 5) sc_party_call.nd rfl (Or.inl rfl) (pe_call (ok_as_number T) (hr.mono (by decide)) (by rfl) T.as_number.mg T.as_number.fn.kp T.as_number.bd .nil pass0 (pa_cons (pe_cmpR op_notN (pe_fld (pv 2) rfl) pe_non (nomark _)) pa_nil))) (pss_one (ps_ret (pe_lst (pa_cons (pe_gint T.c_ACCEPTED) (pa_cons (pe_fld (pv 2) rfl) (pa_cons (pe_fld (pv 2) rfl) (pa_cons (pv 3) (pa_cons (pv 4) (pa_cons (pv 5) pa_nil))))))))))))), ?_⟩
    obtain ⟨i, rfl⟩ := nat_of hp1
    have hi : i < N.parties.length := by omega
    obtain ⟨y, hy, dy, d, sn, b, hyp, ty, hd, hs, hb⟩ := r.ptAt hi
    have e0 : onNet N (.party ((i : Int) + 1)) = (N, [0, ((Vbemar.party N i).version : Int), ((Vbemar.party N i).acked : Int), Vbemar.bit (Vbemar.party N i).waits, Vbemar.bit (Vbemar.party N i).tooLate, Vbemar.bit (Vbemar.party N i).final.isSome]) := by
      show (if _ then _ else _) = _
      rw [if_neg (by rw [missing_iff]; exact c1), GM.at_succ]
    have eb : (!decide (b = V.non)) = (Vbemar.party N i).final.isSome := by
      cases hf : (Vbemar.party N i).final with
      | none =>
        rw [hf] at hb
        have e : b = V.non := hb
        simp [e]
      | some l =>
        rw [hf] at hb
        obtain ⟨q, e, _⟩ := hb
        simp [e]
    refine ⟨_, rfl, m, dm, _, rfl, hm, rfl, _, rfl, nl, _, _, _, rfl, rfl, SqL.of hnl, at_of (j := 0) rfl rfl, t, m, L, N, i, y, rfl, r, hy, ?_⟩
    refine ⟨_, rfl, y, _, dy, _, _, rfl, hyp, T.cl_Party, T.na_Party_waits, rfl, _, rfl, ?_⟩
    refine ⟨_, rfl, y, _, dy, _, _, rfl, hyp, T.cl_Party, T.na_Party_too_late, rfl, _, rfl, ?_⟩
    refine ⟨_, rfl, y, _, dy, _, _, rfl, hyp, T.cl_Party, T.na_Party_belief, rfl, rfl, _, rfl, ?_⟩
    refine ⟨_, rfl, y, _, dy, _, _, rfl, hyp, T.cl_Party, T.na_Party_version, rfl, _, rfl, y, _, dy, _, _, rfl, hyp, T.cl_Party, T.na_Party_acked, rfl, _, rfl, _, rfl, _, rfl, (by show 6 ≤ sizeLine; decide), fun q hq => ?_⟩
    rw [eb]
    exact fin_ans k e0 r (Fm.refl _ _) hq
end
end G
end
section
set_option Elab.async false
set_option linter.all false
set_option maxRecDepth 100000
set_option maxHeartbeats 1000000
namespace G
open PySem PySem.Spec PyProof.Rows L2
open GM (WF MsgOk Srt)
open Vbemar (onNet)
def kk (r : Row) : Int × Int := ((r.to : Int) + 1, (r.q : Int) + 1)
theorem le2_anti (x y : Int × Int) (h1 : le2 x y) (h2 : le2 y x) : x = y := by
  unfold le2 at h1 h2
  exact Prod.ext (by omega) (by omega)
theorem srt_keys {l : Sheet} (h : Srt l) : (l.map kk).Pairwise le2 := by
  rw [List.pairwise_map]
  refine h.pw.imp fun {a b} hb => ?_
  rw [GM.before_iff] at hb
  unfold le2 kk
  dsimp only
  omega
theorem valV_mem {us : List Row} (h : GM.KN us) {r : Row} (hr : r ∈ us) : valV (us.map enc) (ek r.to r.q) = some (.int r.amount) := by
  rw [valV_enc]
  cases e : us.find? fun x => x.to == r.to && x.q == r.q with
  | none =>
    have := List.find?_eq_none.mp e r hr
    simp at this
  | some x =>
    have h1 := List.mem_of_find?_eq_some e
    have h2 := List.find?_some e
    simp only [Bool.and_eq_true, beq_iff_eq] at h2
    have e2 : x = r := GM.KN.uniq h h1 hr (Prod.ext h2.1 h2.2)
    rw [e2]
    rfl
theorem paired_at {α β : Type} {F : α → β → Prop} : ∀ {l : List α} {m : List β}, Paired F l m → ∀ {i : Nat} {y : β}, m[i]? = some y → ∃ x, l[i]? = some x ∧ F x y
  | _, _, .nil, i, y, h => by simp at h
  | _, _, .cons r t, 0, y, h => by
    have e := Option.some.inj h
    subst e
    exact ⟨_, rfl, r⟩
  | _, _, .cons r t, i + 1, y, h => paired_at t (i := i) h
theorem map_ref_at {bs : List Addr} {i : Nat} {y : V} (h : (bs.map V.ref)[i]? = some y) : ∃ b, bs[i]? = some b ∧ y = .ref b := by
  rw [List.getElem?_map] at h
  cases e : bs[i]? with
  | none =>
    rw [e] at h
    cases h
  | some b =>
    rw [e] at h
    exact ⟨b, rfl, (Option.some.inj h).symm⟩
section
variable {P : Program} {w : World} {K : PySem.W.Frag} {mg : Str → Option Value} {base : Heap} {a : Ad}
def sp_list_rows : Sp := fun vs H Q _ => ∃ (d : Addr) (us : List Row) (l : Sheet), vs = [.ref d] ∧ H d = some (.dT (us.map enc)) ∧ us.Perm l ∧ Srt l ∧
  ∀ (H' : Hp) (p : Addr), Same H H' → H p = none → H' p = some (.lst ((Vbemar.shown l).map V.int)) → Q (.ref p) H'
theorem ok_list_rows (T : Txt K mg a) : FnOk P w K mg base CX0 1 a.f_list_rows a.d_list_rows ["sheet"] sp_list_rows := by
  refine T.list_rows.fn.ok sc_list_rows (fun vs H Q E h => ?_) (fun cdv A outer s H vs Q E hr h => ?_)
  · obtain ⟨d, us, l, rfl, _⟩ := h
    rfl
  · obtain ⟨d, us, l, rfl, hd, pl, sl, k⟩ := h
    have hu := hu_of hr
    refine ⟨_, (pss_cons (ps_set (i := 1) sc_list_rows.nd rfl (Or.inl rfl) (pe_lst pa_nil)) (pss_cons (ps_for PassesOwn.never rfl (pi_list (pe_callB (cr_sortedT rfl) (by rfl) T.b_sorted boot_sorted (pa_cons (pv 0) pa_nil))) (pg_tup rfl (pgs_cons (pg_name (i := 2) sc_list_rows.nd rfl (Or.inl rfl)) (pgs_cons (pg_name (i := 3) sc_list_rows.nd rfl (Or.inl rfl)) pgs_nil))) (pss_one (ps_expr (pe_bm PySem.F.plainAttrs_list PySem.F.slot_list_extend PySem.F.type_list_extend mt_extend (pv 1) (pa_cons (pe_lst (pa_cons (pv 2) (pa_cons (pv 3) (pa_cons (pe_dget hu (pv 0) (pe_tup (pa_cons (pv 2) (pa_cons (pv 3) pa_nil))) (fun _ _ => rfl)) pa_nil)))) pa_nil))))) (pss_one (ps_ret (pv 1))))), ?_⟩
    refine ⟨Nat.zero_le _, fun rl hrl => ?_⟩
    have s1 : Same H (upd H rl (.lst [])) := same_new hrl
    refine ⟨_, rfl, d, us.map fun r => (kk r, .int r.amount), rfl, ?_, fun ys bs p p1 p2 p3 hp => ?_⟩
    · rw [List.map_map]
      exact s1 _ _ hd
    have eys : ys = l.map kk := by
      refine GM.sorted_uniq le2_anti (p1.trans ?_) p2 (srt_keys sl)
      rw [List.map_map]
      exact pl.map kk
    subst eys
    have s2 : Same (upd H rl (.lst [])) (upd (upd H rl (.lst [])) p (.lst (bs.map V.ref))) := same_new hp
    have npr : p ≠ rl := fun e => by rw [e, upd_same] at hp; cases hp
    have hlb : l.length = bs.length := by
      have := Paired.length p3
      rw [List.length_map] at this
      exact this
    have hkn : GM.KN us := GM.KN.perm pl sl.kn
    have h12 := sl.short
    refine ⟨p, rfl, ⟨_, SqL.of upd_same⟩, for_list (K := K) (a := p) (xs := bs.map V.ref) (fun i σ H' => ∃ v2 v3 : Option V, σ = [some (.ref d), some (.ref rl), v2, v3] ∧ But rl (upd (upd H rl (.lst [])) p (.lst (bs.map V.ref))) H' ∧ H' rl = some (.lst ((Vbemar.shown (l.take i)).map V.int)))
      ⟨none, none, rfl, fun b o e _ => e, s2 _ _ upd_same⟩ (fun i σ H' _ ⟨_, _, _, b1, _⟩ => SqL.of (b1 p _ upd_same npr)) ?_ ?_⟩
    · rintro i y σ H' hi ⟨v2, v3, rfl, b1, h1⟩
      obtain ⟨b, hb, rfl⟩ := map_ref_at hi
      obtain ⟨y, hy, hyb⟩ := paired_at p3 hb
      rw [List.getElem?_map] at hy
      obtain ⟨r, hr0, rfl⟩ : ∃ r, l[i]? = some r ∧ y = kk r := by
        cases e : l[i]? with
        | none =>
          rw [e] at hy
          cases hy
        | some r =>
          rw [e] at hy
          exact ⟨r, rfl, (Option.some.inj hy).symm⟩
      have hru : r ∈ us := pl.mem_iff.mpr (List.mem_of_getElem? hr0)
      have nbr : b ≠ rl := fun e => by rw [e, upd_same] at hyb; cases hyb
      have hb2 : H' b = some (.tup [.int (kk r).1, .int (kk r).2]) := b1 b _ (s2 _ _ hyb) nbr
      have ndr : d ≠ rl := ne_of_none hd hrl
      have hd2 : H' d = some (.dT (us.map enc)) := b1 d _ (s2 _ _ (s1 _ _ hd)) ndr
      refine ⟨b, _, rfl, SqT.of hb2, rfl, _, _, rfl, _, _, rfl, rfl, ?_⟩
      refine ⟨_, rfl, .inl ⟨rfl, _, SqL.of h1⟩, _, rfl, _, rfl, _, rfl, _, rfl, _, rfl, (by show 2 ≤ sizeLine; decide), fun u hu0 => ?_⟩
      have su : Same H' (upd H' u (.tup [.int (kk r).1, .int (kk r).2])) := same_new hu0
      have dg : DGet (upd H' u (.tup [.int (kk r).1, .int (kk r).2])) d (.ref u) (some (.int r.amount)) := by
        have e := DGet.t (k := ek r.to r.q) (su _ _ hd2) upd_same
        rw [valV_mem hkn hru] at e
        exact e
      refine ⟨d, _, rfl, dg, (by show 3 ≤ sizeLine; decide), fun q hq => ?_⟩
      have s3 : Same H' (upd (upd H' u (.tup [.int (kk r).1, .int (kk r).2])) q (.lst [.int (kk r).1, .int (kk r).2, .int r.amount])) := su.trans (same_new hq)
      refine ⟨rl, q, _, _, rfl, rfl, s3 _ _ h1, upd_same, ?_, ?_⟩
      · rw [List.length_map, GM.shown_len, List.length_take]
        have : 3 * min i l.length + 3 ≤ 1000 := by omega
        exact Nat.le_of_lt (line_of_le this)
      · refine ⟨_, _, rfl, fun c o e hc => ?_, ?_⟩
        · rw [upd_ne hc]
          exact s3 _ _ (b1 c o e hc)
        · rw [upd_same, GM.take_snoc hr0, GM.shown_snoc, List.map_append]
          rfl
    · rintro σ H' ⟨v2, v3, rfl, b1, h1⟩
      rw [List.length_map, ← hlb, List.take_length] at h1
      refine ⟨_, rfl, k H' rl (fun b o e => b1 b o (s2 _ _ (s1 _ _ e)) (ne_of_none e hrl)) hrl h1⟩
theorem ok_house_call (T : Txt K mg a) : FnOk P w K mg base CX0 2 a.f_house_call a.d_house_call ["market", "numbers"] (sp_hd a (r_p .house)) := by
  refine T.house_call.fn.ok sc_house_call (fun vs H Q E h => ?_) (fun cdv A outer s H vs Q E hr h => ?_)
  · obtain ⟨t, m, L, N, nl, ns, c, rfl, _⟩ := h
    rfl
  · obtain ⟨t, m, L, N, nl, ns, c, rfl, r, hnl, tnl, ⟨p, rfl, rfl, hp1, c1⟩, k⟩ := h
    obtain ⟨dm, hm⟩ := r.mkt
    refine ⟨_, (pss_cons (ps_set (i := 2) sc_house_call.nd rfl (Or.inl rfl) (pe_meth (pv 0) T.cl_Market T.Market_account_of.me (ok_Market_account_of T) (hr.mono (by decide)) T.Market_account_of.bd .nil pass0 (pa_cons (pe_ix ix_list (pv 1) pe_int (fun _ _ => rfl)) pa_nil))) (pss_one (ps_ret (pe_lst (pa_cons (pe_gint T.c_ACCEPTED) (pa_cons (pe_fld (pv 2) rfl) (pa_cons (pe_call (ok_as_number T) (hr.mono (by decide)) (by rfl) T.as_number.mg T.as_number.fn.kp T.as_number.bd .nil pass0 (pa_cons (pe_fld (pv 2) rfl) pa_nil)) pa_nil))))))), ?_⟩
    obtain ⟨i, rfl⟩ := nat_of hp1
    have hi : i < N.parties.length := by omega
    obtain ⟨y, hy, dy, sy, hya, ty, hs⟩ := r.acAt hi
    have e0 : onNet N (.house ((i : Int) + 1)) = (N, [0, ((Vbemar.heldOf N i).version : Int), Vbemar.bit (Vbemar.heldOf N i).seen]) := by
      show (if _ then _ else _) = _
      rw [if_neg (by rw [missing_iff]; exact c1), GM.at_succ]
    refine ⟨_, rfl, m, dm, _, rfl, hm, rfl, _, rfl, nl, _, _, _, rfl, rfl, SqL.of hnl, at_of (j := 0) rfl rfl, t, m, L, N, i, y, rfl, r, hy, ?_⟩
    exact ⟨_, rfl, y, _, dy, _, _, rfl, hya, T.cl_Account, T.na_Account_version, rfl, _, rfl, y, _, dy, _, _, rfl, hya, T.cl_Account, T.na_Account_seen, rfl, _, rfl, (by show 3 ≤ sizeLine; decide), fun q hq => fin_ans k e0 r (Fm.refl _ _) hq⟩
/-- [ACCEPTED] + a new list: the end of a call that answers a list -/
theorem fin_cat {H0 H : Hp} {t : Tg} {m : Addr} {L : Lyt} {N : Net} {c : Vbemar.Call} {Q : VK} {l : List Int} (k : HdQ a H0 t N c m Q) (e : onNet N c = (N, 0 :: l)) (r : Rep a.toAdr H0 t m L N) (s : Same H0 H) (sl : l.length ≤ 900) {b : Addr} (hb : H b = none)
    {H1 : Hp} {p : Addr} (s1 : Same (upd H b (.lst [.int 0])) H1) (hp : H1 p = some (.lst (l.map V.int))) :
    rCat (.ref b) (.ref p) H1 Q := by
  refine ⟨b, p, _, _, rfl, rfl, s1 _ _ upd_same, hp, ?_, fun q hq => ?_⟩
  · rw [List.length_map]
    show 1 + _ ≤ _
    exact Nat.le_of_lt (line_of_le (by omega))
  · have s2 : Same H0 H1 := (s.trans (same_new hb)).trans s1
    obtain ⟨g, tl⟩ := growS r.tl s2
    exact fin_ans (l := 0 :: l) k e (r.grow g tl) g.fm hq
theorem fin_rows {H0 H : Hp} {t : Tg} {m : Addr} {L : Lyt} {N : Net} {c : Vbemar.Call} {Q : VK} {l : Sheet} (k : HdQ a H0 t N c m Q) (e : onNet N c = (N, 0 :: Vbemar.shown l)) (r : Rep a.toAdr H0 t m L N) (s : Same H0 H) (sl : Srt l) {b : Addr} (hb : H b = none)
    {H1 : Hp} {p : Addr} (s1 : Same (upd H b (.lst [.int 0])) H1) (hp : H1 p = some (.lst ((Vbemar.shown l).map V.int))) :
    rCat (.ref b) (.ref p) H1 Q := by
  refine fin_cat k e r s ?_ hb s1 hp
  rw [GM.shown_len]
  have := sl.short
  omega
theorem ok_draft_call (T : Txt K mg a) : FnOk P w K mg base CX0 2 a.f_draft_call a.d_draft_call ["market", "numbers"] (sp_hd a (r_p .draft)) := by
  refine T.draft_call.fn.ok sc_draft_call (fun vs H Q E h => ?_) (fun cdv A outer s H vs Q E hr h => ?_)
  · obtain ⟨t, m, L, N, nl, ns, c, rfl, _⟩ := h
    rfl
  · obtain ⟨t, m, L, N, nl, ns, c, rfl, r, hnl, tnl, ⟨p, rfl, rfl, hp1, c1⟩, k⟩ := h
    obtain ⟨dm, hm⟩ := r.mkt
    refine ⟨_, (pss_one (ps_ret (pe_op op_cat (pe_lst (pa_cons (pe_gint T.c_ACCEPTED) pa_nil)) (pe_call (ok_list_rows T) (hr.mono (by decide)) (by rfl) T.list_rows.mg T.list_rows.fn.kp T.list_rows.bd .nil pass0 (pa_cons (pe_fld (pe_meth (pv 0) T.cl_Market T.Market_party_of.me (ok_Market_party_of T) (hr.mono (by decide)) T.Market_party_of.bd .nil pass0 (pa_cons (pe_ix ix_list (pv 1) pe_int (fun _ _ => rfl)) pa_nil)) rfl) pa_nil))))), ?_⟩
    obtain ⟨i, rfl⟩ := nat_of hp1
    have hi : i < N.parties.length := by omega
    obtain ⟨y, hy, dy, d, sn, b, hyp, ty, ⟨us, hus, tus, pus⟩, hs, hb⟩ := r.ptAt hi
    have po := r.wf.po i _ (GM.party_at hi)
    have e0 : onNet N (.draft ((i : Int) + 1)) = (N, 0 :: Vbemar.shown (Vbemar.party N i).draft) := by
      show (if _ then _ else _) = _
      rw [if_neg (by rw [missing_iff]; exact c1), GM.at_succ]
    refine ⟨(by show 1 ≤ sizeLine; decide), fun b hb => ?_⟩
    have s1 : Same H (upd H b (.lst [.int 0])) := same_new hb
    obtain ⟨g1, tl1⟩ := growS r.tl s1
    exact ⟨_, rfl, m, dm, _, rfl, s1 _ _ hm, rfl, _, rfl, nl, _, _, _, rfl, rfl, SqL.of (s1 _ _ hnl), at_of (j := 0) rfl rfl, t, m, L, N, i, y, rfl, r.grow g1 tl1, hy, y, _, dy, _, _, rfl, s1 _ _ hyp, T.cl_Party, T.na_Party_draft, rfl, d, us, _, rfl, s1 _ _ hus, pus, po.draft.srt,
      fun H1 q s2 nq hq => fin_rows k e0 r (fun _ _ e => e) po.draft.srt hb s2 hq⟩
theorem ok_held_call (T : Txt K mg a) : FnOk P w K mg base CX0 2 a.f_held_call a.d_held_call ["market", "numbers"] (sp_hd a (r_p .held)) := by
  refine T.held_call.fn.ok sc_held_call (fun vs H Q E h => ?_) (fun cdv A outer s H vs Q E hr h => ?_)
  · obtain ⟨t, m, L, N, nl, ns, c, rfl, _⟩ := h
    rfl
  · obtain ⟨t, m, L, N, nl, ns, c, rfl, r, hnl, tnl, ⟨p, rfl, rfl, hp1, c1⟩, k⟩ := h
    obtain ⟨dm, hm⟩ := r.mkt
    refine ⟨_, (pss_one (ps_ret (pe_op op_cat (pe_lst (pa_cons (pe_gint T.c_ACCEPTED) pa_nil)) (pe_call (ok_list_rows T) (hr.mono (by decide)) (by rfl) T.list_rows.mg T.list_rows.fn.kp T.list_rows.bd .nil pass0 (pa_cons (pe_fld (pe_meth (pv 0) T.cl_Market T.Market_account_of.me (ok_Market_account_of T) (hr.mono (by decide)) T.Market_account_of.bd .nil pass0 (pa_cons (pe_ix ix_list (pv 1) pe_int (fun _ _ => rfl)) pa_nil)) rfl) pa_nil))))), ?_⟩
    obtain ⟨i, rfl⟩ := nat_of hp1
    have hi : i < N.parties.length := by omega
    obtain ⟨y, hy, dy, sy, hya, ty, us, hus, tus, pus⟩ := r.acAt hi
    have ho := (GM.ok_held r.wf i).srt
    have e0 : onNet N (.held ((i : Int) + 1)) = (N, 0 :: Vbemar.shown (Vbemar.heldOf N i).sheet) := by
      show (if _ then _ else _) = _
      rw [if_neg (by rw [missing_iff]; exact c1), GM.at_succ]
    refine ⟨(by show 1 ≤ sizeLine; decide), fun b hb => ?_⟩
    have s1 : Same H (upd H b (.lst [.int 0])) := same_new hb
    obtain ⟨g1, tl1⟩ := growS r.tl s1
    exact ⟨_, rfl, m, dm, _, rfl, s1 _ _ hm, rfl, _, rfl, nl, _, _, _, rfl, rfl, SqL.of (s1 _ _ hnl), at_of (j := 0) rfl rfl, t, m, L, N, i, y, rfl, r.grow g1 tl1, hy, y, _, dy, _, _, rfl, s1 _ _ hya, T.cl_Account, T.na_Account_sheet, rfl, sy, us, _, rfl, s1 _ _ hus, pus, ho,
      fun H1 q s2 nq hq => fin_rows k e0 r (fun _ _ e => e) ho hb s2 hq⟩
theorem ok_final_call (T : Txt K mg a) : FnOk P w K mg base CX0 4 a.f_final_call a.d_final_call ["market", "numbers"] (sp_hd a (r_p .final)) := by
  refine T.final_call.fn.ok sc_final_call (fun vs H Q E h => ?_) (fun cdv A outer s H vs Q E hr h => ?_)
  · obtain ⟨t, m, L, N, nl, ns, c, rfl, _⟩ := h
    rfl
  · obtain ⟨t, m, L, N, nl, ns, c, rfl, r, hnl, tnl, ⟨p, rfl, rfl, hp1, c1⟩, k⟩ := h
    obtain ⟨dm, hm⟩ := r.mkt
    refine ⟨_, (pss_cons (ps_if (pt_not (pt_truth (pe_fld (pv 0) rfl) (fun _ => rfl))) (pss_one (ps_ret (pe_lst (pa_cons (pe_gint T.c_NOT_YET) pa_nil)))) pss_nil) (pss_one (ps_ret (pe_op op_cat (pe_lst (pa_cons (pe_gint T.c_ACCEPTED) pa_nil)) (pe_call (ok_list_rows T) (hr.mono (by decide)) (by rfl) T.list_rows.mg T.list_rows.fn.kp T.list_rows.bd .nil pass0 (pa_cons (pe_call (ok_matched_sheet T) (hr.mono (by decide)) (by rfl) T.matched_sheet.mg T.matched_sheet.fn.kp T.matched_sheet.bd .nil pass0 (pa_cons (pv 0) (pa_cons (pe_ix ix_list (pv 1) pe_int (fun _ _ => rfl)) pa_nil))) pa_nil)))))), ?_⟩
    obtain ⟨i, rfl⟩ := nat_of hp1
    have hi : i < N.parties.length := by omega
    have e0 : onNet N (.final ((i : Int) + 1)) = if N.closed = false then (N, [-8]) else (N, 0 :: Vbemar.shown (Vbemar.finalOf N i)) := by
      show (if _ then _ else _) = _
      rw [if_neg (by rw [missing_iff]; exact c1), GM.at_succ]
    refine ⟨_, rfl, m, _, dm, _, _, rfl, hm, T.cl_Market, T.na_Market_closed, rfl, _, rfl, ?_⟩
    cases hc : N.closed with
    | false =>
      rw [if_pos hc] at e0
      exact ⟨(by show 1 ≤ sizeLine; decide), fun b hb => fin_ans k e0 r (Fm.refl _ _) hb⟩
    | true =>
      rw [if_neg (by rw [hc]; exact fun e => nomatch e)] at e0
      have sf := GM.final_ok r.wf i
      have ef := (GM.final_srt r.wf hi).1
      rw [ef] at e0 sf
      refine ⟨(by show 1 ≤ sizeLine; decide), fun b hb => ?_⟩
      have s1 : Same H (upd H b (.lst [.int 0])) := same_new hb
      obtain ⟨g1, tl1⟩ := growS r.tl s1
      refine ⟨_, rfl, _, rfl, nl, _, _, _, rfl, rfl, SqL.of (s1 _ _ hnl), at_of (j := 0) rfl rfl, t, m, L, N, i, rfl, r.grow g1 tl1, hi, fun H1 d s2 nd hd => ?_⟩
      exact ⟨d, _, _, rfl, hd, .refl _, sf, fun H2 q s3 nq hq => fin_rows k e0 r (fun _ _ e => e) sf hb (s2.trans s3) hq⟩
theorem ok_belief_call (T : Txt K mg a) : FnOk P w K mg base CX0 2 a.f_belief_call a.d_belief_call ["market", "numbers"] (sp_hd a (r_p .belief)) := by
  refine T.belief_call.fn.ok sc_belief_call (fun vs H Q E h => ?_) (fun cdv A outer s H vs Q E hr h => ?_)
  · obtain ⟨t, m, L, N, nl, ns, c, rfl, _⟩ := h
    rfl
  · obtain ⟨t, m, L, N, nl, ns, c, rfl, r, hnl, tnl, ⟨p, rfl, rfl, hp1, c1⟩, k⟩ := h
    obtain ⟨dm, hm⟩ := r.mkt
    refine ⟨_, (pss_cons (ps_set (i := 2) sc_belief_call.nd rfl (Or.inl rfl) (pe_fld (pe_meth (pv 0) T.cl_Market T.Market_party_of.me (ok_Market_party_of T) (hr.mono (by decide)) T.Market_party_of.bd .nil pass0 (pa_cons (pe_ix ix_list (pv 1) pe_int (fun _ _ => rfl)) pa_nil)) rfl)) (pss_cons (ps_if (pt_cmpR op_isN (pv 2) pe_non (nomark _)) (pss_one (ps_ret (pe_lst (pa_cons (pe_gint T.c_NOT_YET) pa_nil)))) pss_nil) (pss_one (ps_ret (pe_op op_cat (pe_lst (pa_cons (pe_gint T.c_ACCEPTED) pa_nil)) (pe_call (ok_list_rows T) (hr.mono (by decide)) (by rfl) T.list_rows.mg T.list_rows.fn.kp T.list_rows.bd .nil pass0 (pa_cons (pv 2) pa_nil))))))), ?_⟩
    obtain ⟨i, rfl⟩ := nat_of hp1
    have hi : i < N.parties.length := by omega
    obtain ⟨y, hy, dy, d, sn, b, hyp, ty, hd, hs, hb⟩ := r.ptAt hi
    have po := r.wf.po i _ (GM.party_at hi)
    have e0 : onNet N (.belief ((i : Int) + 1)) = match (Vbemar.party N i).final with
        | none => (N, [-8])
        | some l => (N, 0 :: Vbemar.shown l) := by
      show (if _ then _ else _) = _
      rw [if_neg (by rw [missing_iff]; exact c1), GM.at_succ]
      cases (Vbemar.party N i).final <;> rfl
    refine ⟨_, rfl, m, dm, _, rfl, hm, rfl, _, rfl, nl, _, _, _, rfl, rfl, SqL.of hnl, at_of (j := 0) rfl rfl, t, m, L, N, i, y, rfl, r, hy, y, _, dy, _, _, rfl, hyp, T.cl_Party, T.na_Party_belief, rfl, ?_⟩
    cases hf : (Vbemar.party N i).final with
    | none =>
      rw [hf] at hb e0
      have e : b = V.non := hb
      exact ⟨_, rfl, rfl, _, rfl, dT e ⟨(by show 1 ≤ sizeLine; decide), fun b hb => fin_ans k e0 r (Fm.refl _ _) hb⟩⟩
    | some l =>
      rw [hf] at hb e0
      obtain ⟨q, e, us, hus, tus, pus⟩ := hb
      have sl := po.final l hf
      subst e
      refine ⟨_, rfl, rfl, _, rfl, dF (fun e => nomatch e) ⟨(by show 1 ≤ sizeLine; decide), fun b hb => ?_⟩⟩
      have s1 : Same H (upd H b (.lst [.int 0])) := same_new hb
      exact ⟨_, rfl, q, us, _, rfl, s1 _ _ hus, pus, sl, fun H1 q s2 nq hq => fin_rows k e0 r (fun _ _ e => e) sl hb s2 hq⟩
def r_flying : Net → List Int → Vbemar.Call → Prop := fun _ ns c => ns = [] ∧ c = .flying
def r_unmatched : Net → List Int → Vbemar.Call → Prop := fun _ ns c => ns = [] ∧ c = .unmatched
def r_now : Net → List Int → Vbemar.Call → Prop := fun _ ns c => ns = [] ∧ c = .now
def r_total : Net → List Int → Vbemar.Call → Prop := fun _ ns c => ∃ q, ns = [q] ∧ c = .total q ∧ 1 ≤ q ∧ q ≤ 3
theorem ok_now_call (T : Txt K mg a) : FnOk P w K mg base CX0 2 a.f_now_call a.d_now_call ["market", "numbers"] (sp_hd a r_now) := by
  refine T.now_call.fn.ok sc_now_call (fun vs H Q E h => ?_) (fun cdv A outer s H vs Q E hr h => ?_)
  · obtain ⟨t, m, L, N, nl, ns, c, rfl, _⟩ := h
    rfl
  · obtain ⟨t, m, L, N, nl, ns, c, rfl, r, hnl, tnl, ⟨rfl, rfl⟩, k⟩ := h
    obtain ⟨dm, hm⟩ := r.mkt
    refine ⟨_, (pss_one (ps_ret (pe_lst (pa_cons (pe_gint T.c_ACCEPTED) (pa_cons (pe_fld (pv 0) rfl) (pa_cons (pe_call (ok_as_number T) (hr.mono (by decide)) (by rfl) T.as_number.mg T.as_number.fn.kp T.as_number.bd .nil pass0 (pa_cons (pe_fld (pv 0) rfl) pa_nil)) pa_nil)))))), ?_⟩
    exact ⟨_, rfl, m, _, dm, _, _, rfl, hm, T.cl_Market, T.na_Market_time, rfl, _, rfl, m, _, dm, _, _, rfl, hm, T.cl_Market, T.na_Market_closed, rfl, _, rfl, (by show 3 ≤ sizeLine; decide), fun q hq => fin_ans (l := [0, (N.now : Int), Vbemar.bit N.closed]) k rfl r (Fm.refl _ _) hq⟩
theorem flat_snoc {l : List Msg} {x : Msg} : (l ++ [x]).flatMap Vbemar.shownMsg = l.flatMap Vbemar.shownMsg ++ Vbemar.shownMsg x := by
  rw [List.flatMap_append, List.flatMap_singleton]
theorem flat_len (l : List Msg) : (l.flatMap Vbemar.shownMsg).length ≤ 4 * l.length := GM.flat_le l fun m _ => Nat.le_of_eq (GM.shownMsg_len m)
def sp_describe_all (a : Ad) : Sp := fun vs H Q _ => ∃ (t : Tg) (m : Addr) (L : Lyt) (N : Net), vs = [.ref L.nn] ∧ Rep a.toAdr H t m L N ∧
  ∀ (H' : Hp) (p : Addr), Same H H' → H p = none → H' p = some (.lst ((N.flying.flatMap Vbemar.shownMsg).map V.int)) → Q (.ref p) H'
theorem ok_describe_all (T : Txt K mg a) : FnOk P w K mg base CX0 3 a.f_describe_all a.d_describe_all ["net"] (sp_describe_all a) := by
  refine T.describe_all.fn.ok sc_describe_all (fun vs H Q E h => ?_) (fun cdv A outer s H vs Q E hr h => ?_)
  · obtain ⟨t, m, L, N, rfl, _⟩ := h
    rfl
  · obtain ⟨t, m, L, N, rfl, r, k⟩ := h
    obtain ⟨dn, hn⟩ := r.nn
    have h40 := r.wf.f40
    refine ⟨_, (pss_cons (ps_set (i := 1) sc_describe_all.nd rfl (Or.inl rfl) (pe_lst pa_nil)) (pss_cons (ps_for PassesOwn.never rfl (pi_list (pe_fld (pv 0) rfl)) (pg_name (i := 2) sc_describe_all.nd rfl (Or.inl rfl)) (pss_one (ps_expr (pe_bm PySem.F.plainAttrs_list PySem.F.slot_list_extend PySem.F.type_list_extend mt_extend (pv 1) (pa_cons (pe_call (ok_describe T) (hr.mono (by decide)) (by rfl) T.describe.mg T.describe.fn.kp T.describe.bd .nil pass0 (pa_cons (pv 2) pa_nil)) pa_nil))))) (pss_one (ps_ret (pv 1))))), ?_⟩
    refine ⟨Nat.zero_le _, fun p hp => ?_⟩
    have s1 : Same H (upd H p (.lst [])) := same_new hp
    refine ⟨_, rfl, L.nn, _, dn, _, _, rfl, s1 _ _ hn, T.cl_Net, T.na_Net_messages, rfl, L.ml, rfl, ⟨_, SqL.of (s1 _ _ r.ml)⟩, ?_⟩
    refine for_list (K := K) (a := L.ml) (xs := L.ms.map V.ref) (fun i σ H' => ∃ v2 : Option V, σ = [some (.ref L.nn), some (.ref p), v2] ∧ Same H H' ∧ H' p = some (.lst (((N.flying.take i).flatMap Vbemar.shownMsg).map V.int)))
      ⟨none, rfl, s1, upd_same⟩ (fun i σ H' _ ⟨_, _, b1, _⟩ => SqL.of (b1 _ _ r.ml)) ?_ ?_
    · rintro i y σ H' hi ⟨v2, rfl, b1, h1⟩
      obtain ⟨x, hx, rfl⟩ := map_ref_at hi
      have hil : i < N.flying.length := by rw [← r.lm]; exact (List.getElem?_eq_some_iff.mp hx).1
      obtain ⟨y, hy⟩ : ∃ y, N.flying[i]? = some y := ⟨_, List.getElem?_eq_getElem hil⟩
      obtain ⟨g1, tl1⟩ := growS r.tl b1
      refine ⟨_, rfl, .inl ⟨rfl, _, SqL.of h1⟩, _, rfl, t, x, y, rfl, (r.ms i x y hx hy).grow g1, fun q hq => ?_⟩
      have s3 : Same H' (upd H' q (.lst ((Vbemar.shownMsg y).map V.int))) := same_new hq
      refine ⟨p, q, _, _, rfl, rfl, s3 _ _ h1, upd_same, ?_, ?_⟩
      · rw [List.length_map, List.length_map, GM.shownMsg_len]
        have e1 := flat_len (N.flying.take i)
        rw [List.length_take] at e1
        exact Nat.le_of_lt (line_of_le (by omega))
      · refine ⟨_, rfl, fun c o e => ?_, ?_⟩
        · rw [upd_ne (ne_of_none e hp)]
          exact s3 _ _ (b1 _ _ e)
        · rw [upd_same, GM.take_snoc hy, flat_snoc, ← List.map_append]
    · rintro σ H' ⟨v2, rfl, b1, h1⟩
      rw [List.length_map, r.lm, List.take_length] at h1
      exact ⟨_, rfl, k H' p b1 hp h1⟩
theorem ok_flying_call (T : Txt K mg a) : FnOk P w K mg base CX0 4 a.f_flying_call a.d_flying_call ["market", "numbers"] (sp_hd a r_flying) := by
  refine T.flying_call.fn.ok sc_flying_call (fun vs H Q E h => ?_) (fun cdv A outer s H vs Q E hr h => ?_)
  · obtain ⟨t, m, L, N, nl, ns, c, rfl, _⟩ := h
    rfl
  · obtain ⟨t, m, L, N, nl, ns, c, rfl, r, hnl, tnl, ⟨rfl, rfl⟩, k⟩ := h
    obtain ⟨dm, hm⟩ := r.mkt
    have h40 := r.wf.f40
    refine ⟨_, (pss_one (ps_ret (pe_op op_cat (pe_lst (pa_cons (pe_gint T.c_ACCEPTED) pa_nil)) (pe_call (ok_describe_all T) (hr.mono (by decide)) (by rfl) T.describe_all.mg T.describe_all.fn.kp T.describe_all.bd .nil pass0 (pa_cons (pe_fld (pv 0) rfl) pa_nil))))), ?_⟩
    refine ⟨(by show 1 ≤ sizeLine; decide), fun b hb => ?_⟩
    have s1 : Same H (upd H b (.lst [.int 0])) := same_new hb
    obtain ⟨g1, tl1⟩ := growS r.tl s1
    refine ⟨_, rfl, m, _, dm, _, _, rfl, s1 _ _ hm, T.cl_Market, T.na_Market_net, rfl, t, m, L, N, rfl, r.grow g1 tl1, fun H1 q s2 nq hq => fin_cat (l := N.flying.flatMap Vbemar.shownMsg) k rfl r (fun _ _ e => e) ?_ hb s2 hq⟩
    have := flat_len N.flying
    omega
end
end G
end
section
set_option Elab.async false
set_option linter.all false
set_option maxRecDepth 100000
set_option maxHeartbeats 1000000
namespace G
open PySem PySem.Spec PyProof.Rows L2
open GM (WF MsgOk Srt)
open Vbemar (onNet)
section
variable {P : Program} {w : World} {K : PySem.W.Frag} {mg : Str → Option Value} {base : Heap} {a : Ad}
def sp_list_unmatched (a : Ad) : Sp := fun vs H Q _ => ∃ (t : Tg) (m : Addr) (L : Lyt) (N : Net), vs = [.ref m] ∧ Rep a.toAdr H t m L N ∧
  ∀ (H' : Hp) (p : Addr), Same H H' → H p = none → H' p = some (.lst ((GM.u3 N N.parties.length).map V.int)) → Q (.ref p) H'
theorem u1_len (N : Net) (p r : Nat) : ∀ j, (GM.u1 N p r j).length ≤ 5 * j
  | 0 => Nat.le_refl _
  | j + 1 => by
    have h := u1_len N p r j
    rw [GM.u1_succ, List.length_append]
    split
    · show _ + 5 ≤ _
      omega
    · show _ + 0 ≤ _
      omega
theorem u2_len (N : Net) (p : Nat) : ∀ i, (GM.u2 N p i).length ≤ 5 * N.quarters * i
  | 0 => Nat.le_refl _
  | i + 1 => by
    have h := u2_len N p i
    have h2 := u1_len N p (p + 1 + i) N.quarters
    rw [GM.u2_succ, List.length_append, Nat.mul_succ]
    omega
theorem u2_short {N : Net} (w : WF N) {p i : Nat} (hi : i ≤ 4) : (GM.u2 N p i).length ≤ 60 := by
  have h := u2_len N p i
  have h3 := w.q3
  have : 5 * N.quarters * i ≤ 5 * 3 * 4 := Nat.mul_le_mul (Nat.mul_le_mul_left 5 h3) hi
  omega
theorem u3_short {N : Net} (w : WF N) : ∀ i, (GM.u3 N i).length ≤ 60 * i
  | 0 => Nat.le_refl _
  | i + 1 => by
    have h := u3_short w i
    have h4 := w.n4
    have h2 := u2_short w (p := i) (i := Vbemar.count N - (i + 1)) (by show N.parties.length - (i + 1) ≤ 4; omega)
    rw [GM.u3_succ, List.length_append]
    omega
theorem ok_list_unmatched (T : Txt K mg a) : FnOk P w K mg base CX0 3 a.f_list_unmatched a.d_list_unmatched ["market"] (sp_list_unmatched a) := by
  refine T.list_unmatched.fn.ok sc_list_unmatched (fun vs H Q E h => ?_) (fun cdv A outer s H vs Q E hr h => ?_)
  · obtain ⟨t, m, L, N, rfl, _⟩ := h
    rfl
  · obtain ⟨t, m, L, N, rfl, r, k⟩ := h
    obtain ⟨dm, hm⟩ := r.mkt
    have hn4 := r.wf.n4
    have hq3 := r.wf.q3
    refine ⟨_, (pss_cons (ps_set (i := 1) sc_list_unmatched.nd rfl (Or.inl rfl) (pe_lst pa_nil)) (pss_cons (ps_for PassesOwn.never rfl (pi_range2 (by rfl) T.b_range (pa_cons pe_int (pa_cons (pe_op op_add (pe_fld (pv 0) rfl) pe_int) pa_nil))) (pg_name (i := 2) sc_list_unmatched.nd rfl (Or.inl rfl)) (pss_one (ps_for PassesOwn.never rfl (pi_range2 (by rfl) T.b_range (pa_cons (pe_op op_add (pv 2) pe_int) (pa_cons (pe_op op_add (pe_fld (pv 0) rfl) pe_int) pa_nil))) (pg_name (i := 3) sc_list_unmatched.nd rfl (Or.inl rfl)) (pss_one (ps_for PassesOwn.never rfl (pi_range2 (by rfl) T.b_range (pa_cons pe_int (pa_cons (pe_op op_add (pe_fld (pv 0) rfl) pe_int) pa_nil))) (pg_name (i := 4) sc_list_unmatched.nd rfl (Or.inl rfl)) (pss_cons (ps_set (i := 5) sc_list_unmatched.nd rfl (Or.inl rfl) (pe_call (ok_held_amount T) (hr.mono (by decide)) (by rfl) T.held_amount.mg T.held_amount.fn.kp T.held_amount.bd .nil pass0 (pa_cons (pv 0) (pa_cons (pv 2) (pa_cons (pv 3) (pa_cons (pv 4) pa_nil)))))) (pss_cons (ps_set (i := 6) sc_list_unmatched.nd rfl (Or.inl rfl) (pe_call (ok_held_amount T) (hr.mono (by decide)) (by rfl) T.held_amount.mg T.held_amount.fn.kp T.held_amount.bd .nil pass0 (pa_cons (pv 0) (pa_cons (pv 3) (pa_cons (pv 2) (pa_cons (pv 4) pa_nil)))))) (pss_one (ps_if (pt_cmpR op_ne (pv 5) (pe_un un_neg (pv 6)) (nomark _)) (pss_one (ps_expr (pe_bm PySem.F.plainAttrs_list PySem.F.slot_list_extend PySem.F.type_list_extend mt_extend (pv 1) (pa_cons (pe_lst (pa_cons (pv 2) (pa_cons (pv 3) (pa_cons (pv 4) (pa_cons (pv 5) (pa_cons (pv 6) pa_nil)))))) pa_nil)))) pss_nil))))))))) (pss_one (ps_ret (pv 1))))), ?_⟩
    refine ⟨Nat.zero_le _, fun d hd => ?_⟩
    have s0 : Same H (upd H d (.lst [])) := same_new hd
    refine ⟨_, rfl, m, _, dm, _, _, rfl, s0 _ _ hm, T.cl_Market, T.na_Market_party_count, rfl, _, _, rfl, rfl, 1, (N.parties.length : Int) + 1, rfl, ⟨by omega, by omega, by omega, by omega⟩, ?_⟩
    rw [show ((N.parties.length : Int) + 1 - 1).toNat = N.parties.length by omega]
    refine for_range (lo := 1) (n := N.parties.length) (fun i σ H' => ∃ v2 v3 v4 v5 v6 : Option V, σ = [some (.ref m), some (.ref d), v2, v3, v4, v5, v6] ∧ Same H H' ∧ H' d = some (.lst ((GM.u3 N i).map V.int)))
      ⟨none, none, none, none, none, rfl, s0, upd_same⟩ ?_ ?_
    · rintro i σ H1 hi ⟨v2, v3, v4, v5, v6, rfl, s1, h1⟩
      rw [show (1 : Int) + (i : Int) = (i : Int) + 1 from Int.add_comm _ _]
      refine ⟨_, rfl, _, _, rfl, rfl, _, rfl, m, _, dm, _, _, rfl, s1 _ _ hm, T.cl_Market, T.na_Market_party_count, rfl, _, _, rfl, rfl, (i : Int) + 1 + 1, (N.parties.length : Int) + 1, rfl, ⟨by omega, by omega, by omega, by omega⟩, ?_⟩
      rw [show ((N.parties.length : Int) + 1 - ((i : Int) + 1 + 1)).toNat = N.parties.length - (i + 1) by omega]
      refine for_range (lo := (i : Int) + 1 + 1) (n := N.parties.length - (i + 1)) (fun z σ H' => ∃ v3 v4 v5 v6 : Option V, σ = [some (.ref m), some (.ref d), some (.int ((i : Int) + 1)), v3, v4, v5, v6] ∧ Same H H' ∧
          H' d = some (.lst ((GM.u3 N i ++ GM.u2 N i z).map V.int)))
        ⟨v3, v4, v5, v6, rfl, s1, by rw [h1]; exact congrArg (fun z => some (HO.lst z)) (by show _ = (GM.u3 N i ++ []).map V.int; rw [List.append_nil])⟩ ?_ ?_
      · rintro z σ H2 hz ⟨v3, v4, v5, v6, rfl, s2, h2⟩
        have hj : i + 1 + z < N.parties.length := by omega
        rw [show (i : Int) + 1 + 1 + (z : Int) = ((i + 1 + z : Nat) : Int) + 1 by omega]
        refine ⟨_, rfl, m, _, dm, _, _, rfl, s2 _ _ hm, T.cl_Market, T.na_Market_quarter_count, rfl, _, _, rfl, rfl, 1, (N.quarters : Int) + 1, rfl, ⟨by omega, by omega, by omega, by omega⟩, ?_⟩
        rw [show ((N.quarters : Int) + 1 - 1).toNat = N.quarters by omega]
        refine for_range (lo := 1) (n := N.quarters) (fun q σ H' => ∃ v4 v5 v6 : Option V, σ = [some (.ref m), some (.ref d), some (.int ((i : Int) + 1)), some (.int (((i + 1 + z : Nat) : Int) + 1)), v4, v5, v6] ∧ Same H H' ∧
            H' d = some (.lst ((GM.u3 N i ++ GM.u2 N i z ++ GM.u1 N i (i + 1 + z) q).map V.int)))
          ⟨v4, v5, v6, rfl, s2, by rw [h2]; exact congrArg (fun z => some (HO.lst z)) (by show _ = (GM.u3 N i ++ GM.u2 N i z ++ []).map V.int; rw [List.append_nil])⟩ ?_ ?_
        · rintro q σ H3 hq ⟨v4, v5, v6, rfl, s3, h3⟩
          rw [show (1 : Int) + (q : Int) = (q : Int) + 1 from Int.add_comm _ _]
          have r3 : Rep a.toAdr H3 t m L N := r.grow (growS r.tl s3).1 (growS r.tl s3).2
          refine ⟨_, rfl, _, rfl, _, rfl, _, rfl, t, m, L, N, i, i + 1 + z, q, rfl, r3, hi, fun H4 s4 => ?_⟩
          have r4 : Rep a.toAdr H4 t m L N := r3.grow (growS r3.tl s4).1 (growS r3.tl s4).2
          refine ⟨_, rfl, _, rfl, _, rfl, _, rfl, t, m, L, N, i + 1 + z, i, q, rfl, r4, hj, fun H5 s5 => ?_⟩
          have e1 : Vbemar.amount (Vbemar.heldOf N i).sheet (i + 1 + z) q = GM.ux N i (i + 1 + z) q := rfl
          have e2 : Vbemar.amount (Vbemar.heldOf N (i + 1 + z)).sheet i q = GM.ux N (i + 1 + z) i q := rfl
          rw [e1, e2]
          have h5 := s5 _ _ (s4 _ _ h3)
          have s35 : Same H H5 := (s3.trans s4).trans s5
          refine ⟨_, rfl, _, rfl, _, rfl, rfl, _, rfl, ?_⟩
          by_cases c : GM.ux N i (i + 1 + z) q = - GM.ux N (i + 1 + z) i q
          · rw [decide_eq_true (show V.int (GM.ux N i (i + 1 + z) q) = V.int (- GM.ux N (i + 1 + z) i q) by rw [c])]
            refine ⟨_, _, _, rfl, s35, ?_⟩
            rw [GM.u1_succ, if_neg (by omega), List.append_nil]
            exact h5
          · rw [decide_eq_false (show ¬ V.int (GM.ux N i (i + 1 + z) q) = V.int (- GM.ux N (i + 1 + z) i q) from ne_int c)]
            refine ⟨_, rfl, .inl ⟨rfl, _, SqL.of h5⟩, _, rfl, _, rfl, _, rfl, _, rfl, _, rfl, (by show 5 ≤ sizeLine; decide), fun b hb => ?_⟩
            have s6 : Same H5 (upd H5 b (.lst [.int ((i : Int) + 1), .int (((i + 1 + z : Nat) : Int) + 1), .int ((q : Int) + 1), .int (GM.ux N i (i + 1 + z) q), .int (GM.ux N (i + 1 + z) i q)])) := same_new hb
            refine ⟨d, b, _, _, rfl, rfl, s6 _ _ h5, upd_same, ?_, ?_⟩
            · rw [List.length_map, List.length_append, List.length_append]
              have q1 := u3_short r.wf i
              have q2 := u2_short r.wf (p := i) (i := z) (by omega)
              have q3 := u1_len N i (i + 1 + z) q
              show _ + 5 ≤ _
              exact Nat.le_of_lt (line_of_le (by omega))
            · refine ⟨_, _, _, rfl, fun c o e => ?_, ?_⟩
              · rw [upd_ne (ne_of_none e hd)]
                exact s6 _ _ (s35 _ _ e)
              · rw [upd_same, GM.u1_succ, if_pos (by omega), ← List.append_assoc, List.map_append (l₁ := GM.u3 N i ++ GM.u2 N i z ++ GM.u1 N i (i + 1 + z) q)]
                rfl
        · rintro σ H3 ⟨v4, v5, v6, rfl, s3, h3⟩
          refine ⟨_, _, _, _, rfl, s3, ?_⟩
          rw [GM.u2_succ, ← List.append_assoc]
          exact h3
      · rintro σ H2 ⟨v3, v4, v5, v6, rfl, s2, h2⟩
        refine ⟨_, _, _, _, _, rfl, s2, ?_⟩
        rw [GM.u3_succ]
        exact h2
    · rintro σ H1 ⟨v2, v3, v4, v5, v6, rfl, s1, h1⟩
      exact ⟨_, rfl, k H1 d s1 hd h1⟩
theorem ok_unmatched_call (T : Txt K mg a) : FnOk P w K mg base CX0 4 a.f_unmatched_call a.d_unmatched_call ["market", "numbers"] (sp_hd a r_unmatched) := by
  refine T.unmatched_call.fn.ok sc_unmatched_call (fun vs H Q E h => ?_) (fun cdv A outer s H vs Q E hr h => ?_)
  · obtain ⟨t, m, L, N, nl, ns, c, rfl, _⟩ := h
    rfl
  · obtain ⟨t, m, L, N, nl, ns, c, rfl, r, hnl, tnl, ⟨rfl, rfl⟩, k⟩ := h
    have hn4 := r.wf.n4
    have e0 : onNet N .unmatched = (N, 0 :: GM.u3 N N.parties.length) := by
      show (N, 0 :: Vbemar.unmatched N) = _
      rw [GM.unm_eq]
      rfl
    refine ⟨_, (pss_one (ps_ret (pe_op op_cat (pe_lst (pa_cons (pe_gint T.c_ACCEPTED) pa_nil)) (pe_call (ok_list_unmatched T) (hr.mono (by decide)) (by rfl) T.list_unmatched.mg T.list_unmatched.fn.kp T.list_unmatched.bd .nil pass0 (pa_cons (pv 0) pa_nil))))), ?_⟩
    refine ⟨(by show 1 ≤ sizeLine; decide), fun b hb => ?_⟩
    have s1 : Same H (upd H b (.lst [.int 0])) := same_new hb
    obtain ⟨g1, tl1⟩ := growS r.tl s1
    refine ⟨_, rfl, t, m, L, N, rfl, r.grow g1 tl1, fun H1 p s2 np hp => fin_cat k e0 r (fun _ _ e => e) ?_ hb s2 hp⟩
    have := u3_short r.wf N.parties.length
    omega
def sp_matched_sum (a : Ad) : Sp := fun vs H Q _ => ∃ (t : Tg) (m : Addr) (L : Lyt) (N : Net) (i z : Nat), vs = [.ref m, .int ((i : Int) + 1), .int ((z : Int) + 1)] ∧ Rep a.toAdr H t m L N ∧ i < N.parties.length ∧ z < N.quarters ∧
  ∀ H' : Hp, Same H H' → Q (.int (GM.tot N i z N.parties.length)) H'
theorem snoc_map (f : Nat → Int) (j : Nat) : ((List.range j).map f).map V.int ++ [V.int (f j)] = ((List.range (j + 1)).map f).map V.int := by
  rw [List.range_succ, List.map_append, List.map_append]
  rfl
theorem ok_matched_sum (T : Txt K mg a) : FnOk P w K mg base CX0 4 a.f_matched_sum a.d_matched_sum ["market", "number", "quarter"] (sp_matched_sum a) := by
  refine T.matched_sum.fn.ok sc_matched_sum (fun vs H Q E h => ?_) (fun cdv A outer s H vs Q E hr h => ?_)
  · obtain ⟨t, m, L, N, i, z, rfl, _⟩ := h
    rfl
  · obtain ⟨t, m, L, N, i, z, rfl, r, hi, hz, k⟩ := h
    obtain ⟨dm, hm⟩ := r.mkt
    have hn4 := r.wf.n4
    refine ⟨_, (pss_cons (ps_set (i := 3) sc_matched_sum.nd rfl (Or.inr rfl) (pe_call (ok_matched_sheet T) (hr.mono (by decide)) (by rfl) T.matched_sheet.mg T.matched_sheet.fn.kp T.matched_sheet.bd .nil pass0 (pa_cons (pv 0) (pa_cons (pv 1) pa_nil)))) (pss_one (ps_ret (pe_callB (cr_sum rfl) (by rfl) T.b_sum boot_sum (pa_cons (pe_lc (own := [("other", 4)]) rfl sc_matched_sum.nd (pi_range2 (by rfl) T.b_range (pa_cons pe_int (pa_cons (pe_op op_add (pe_fld (pv 0) rfl) pe_int) pa_nil))) (blkOk_by (by rfl)) (fun _ _ _ _ _ => (pg_name (i := 4) sc_matched_sum.nd rfl (Or.inl rfl))) (fun _ _ _ _ _ => pts_nil) (fun _ _ _ _ _ => (pe_call (ok_read_amount T) (hr.mono (by decide)) (by rfl) T.read_amount.mg T.read_amount.fn.kp T.read_amount.bd .nil pass0 (pa_cons (pv 3) (pa_cons (pv 4) (pa_cons (pv 2) pa_nil)))))) pa_nil))))), ?_⟩
    refine ⟨_, rfl, _, rfl, t, m, L, N, i, rfl, r, hi, fun H1 d s1 nd hd => ?_⟩
    refine ⟨_, rfl, m, _, dm, _, _, rfl, s1 _ _ hm, T.cl_Market, T.na_Market_party_count, rfl, _, _, rfl, rfl, 1, (N.parties.length : Int) + 1, rfl, ⟨by omega, by omega, by omega, by omega⟩, fun D nD => ?_⟩
    rw [show ((N.parties.length : Int) + 1 - 1).toNat = N.parties.length by omega]
    refine lc_range (lo := 1) (n := N.parties.length) (D := D) (fun j H' => Same H1 H' ∧ H' D = some (.lst (((List.range j).map fun r => GM.mt N i r z).map V.int))) ⟨same_new nD, upd_same⟩ ?_ ?_
    · rintro j H2 hj ⟨s2, h2⟩
      rw [show (1 : Int) + (j : Int) = (j : Int) + 1 from Int.add_comm _ _]
      refine ⟨rfl, yes ?_⟩
      refine ⟨_, rfl, _, rfl, _, rfl, d, j, z, _, rfl, s2 _ _ hd, fun H3 s3 => ?_⟩
      rw [GM.mall_amount, if_pos ⟨hj, hz⟩]
      refine ⟨_, s3 _ _ h2, ?_, fun c o e => ?_, ?_⟩
      · rw [List.length_map, List.length_map, List.length_range]
        exact line_of_le (by omega)
      · rw [upd_ne (ne_of_none e nD)]
        exact s3 _ _ (s2 _ _ e)
      · rw [upd_same, snoc_map (fun r => GM.mt N i r z)]
    · rintro H2 ⟨s2, h2⟩
      exact ⟨D, _, rfl, SqL.of h2, k H2 (s1.trans s2)⟩
theorem ok_total_call (T : Txt K mg a) : FnOk P w K mg base CX0 5 a.f_total_call a.d_total_call ["market", "numbers"] (sp_hd a r_total) := by
  refine T.total_call.fn.ok sc_total_call (fun vs H Q E h => ?_) (fun cdv A outer s H vs Q E hr h => ?_)
  · obtain ⟨t, m, L, N, nl, ns, c, rfl, _⟩ := h
    rfl
  · obtain ⟨t, m, L, N, nl, ns, c, rfl, r, hnl, tnl, ⟨q, rfl, rfl, hq1, hq3⟩, k⟩ := h
    obtain ⟨dm, hm⟩ := r.mkt
    have hn4 := r.wf.n4
    obtain ⟨z, rfl⟩ := nat_of hq1
    refine ⟨_, (pss_cons (ps_set (i := 2) sc_total_call.nd rfl (Or.inr rfl) (pe_ix ix_list (pv 1) pe_int (fun _ _ => rfl))) (pss_cons (ps_if (pt_cmpR op_gt (pv 2) (pe_fld (pv 0) rfl) (nomark _)) (pss_one (ps_ret (pe_lst (pa_cons (pe_gint T.c_NO_SUCH_QUARTER) pa_nil)))) pss_nil) (pss_one (ps_ret (pe_op op_cat (pe_lst (pa_cons (pe_gint T.c_ACCEPTED) pa_nil)) (pe_lc (own := [("number", 3)]) rfl sc_total_call.nd (pi_range2 (by rfl) T.b_range (pa_cons pe_int (pa_cons (pe_op op_add (pe_fld (pv 0) rfl) pe_int) pa_nil))) (blkOk_by (by rfl)) (fun _ _ _ _ _ => (pg_name (i := 3) sc_total_call.nd rfl (Or.inl rfl))) (fun _ _ _ _ _ => pts_nil) (fun _ _ _ _ _ => (pe_call (ok_matched_sum T) (hr.mono (by decide)) (by rfl) T.matched_sum.mg T.matched_sum.fn.kp T.matched_sum.bd .nil pass0 (pa_cons (pv 0) (pa_cons (pv 3) (pa_cons (pv 2) pa_nil))))))))))), ?_⟩
    refine ⟨_, rfl, nl, _, _, _, rfl, rfl, SqL.of hnl, at_of (j := 0) rfl rfl, ?_⟩
    by_cases c1 : (N.quarters : Int) < (z : Int) + 1
    · have e4 : onNet N (.total ((z : Int) + 1)) = (N, [-4]) := if_pos (by omega)
      exact ⟨_, rfl, _, rfl, m, _, dm, _, _, rfl, hm, T.cl_Market, T.na_Market_quarter_count, rfl, _, _, rfl, rfl, _, rfl, dT c1 ⟨(by show 1 ≤ sizeLine; decide), fun b hb => fin_ans k e4 r (Fm.refl _ _) hb⟩⟩
    have hz : z < N.quarters := by omega
    have e0 : onNet N (.total ((z : Int) + 1)) = (N, 0 :: (List.range N.parties.length).map fun p => GM.tot N p z N.parties.length) := by
      show (if _ then _ else (N, 0 :: (List.range (Vbemar.count N)).map fun p => Vbemar.position N p (Vbemar.at_ ((z : Int) + 1)))) = _
      rw [if_neg (by omega), GM.at_succ]
      congr 2
      apply List.map_congr_left
      intro p _
      exact GM.position_eq r.wf hz
    refine ⟨_, rfl, _, rfl, m, _, dm, _, _, rfl, hm, T.cl_Market, T.na_Market_quarter_count, rfl, _, _, rfl, rfl, _, rfl, dF c1 ?_⟩
    refine ⟨(by show 1 ≤ sizeLine; decide), fun b hb => ?_⟩
    have s0 : Same H (upd H b (.lst [.int 0])) := same_new hb
    refine ⟨_, rfl, m, _, dm, _, _, rfl, s0 _ _ hm, T.cl_Market, T.na_Market_party_count, rfl, _, _, rfl, rfl, 1, (N.parties.length : Int) + 1, rfl, ⟨by omega, by omega, by omega, by omega⟩, fun D nD => ?_⟩
    rw [show ((N.parties.length : Int) + 1 - 1).toNat = N.parties.length by omega]
    refine lc_range (lo := 1) (n := N.parties.length) (D := D) (fun j H' => Same (upd H b (.lst [.int 0])) H' ∧ H' D = some (.lst (((List.range j).map fun p => GM.tot N p z N.parties.length).map V.int))) ⟨same_new nD, upd_same⟩ ?_ ?_
    · rintro j H2 hj ⟨s2, h2⟩
      have s02 : Same H H2 := s0.trans s2
      have r2 : Rep a.toAdr H2 t m L N := r.grow (growS r.tl s02).1 (growS r.tl s02).2
      rw [show (1 : Int) + (j : Int) = (j : Int) + 1 from Int.add_comm _ _]
      refine ⟨rfl, yes ?_⟩
      refine ⟨_, rfl, _, rfl, _, rfl, t, m, L, N, j, z, rfl, r2, hj, hz, fun H3 s3 => ?_⟩
      refine ⟨_, s3 _ _ h2, ?_, fun c o e => ?_, ?_⟩
      · rw [List.length_map, List.length_map, List.length_range]
        exact line_of_le (by omega)
      · rw [upd_ne (ne_of_none e nD)]
        exact s3 _ _ (s2 _ _ e)
      · rw [upd_same, snoc_map (fun p => GM.tot N p z N.parties.length)]
    · rintro H2 ⟨s2, h2⟩
      refine fin_cat k e0 r (fun _ _ e => e) ?_ hb s2 h2
      rw [List.length_map, List.length_range]
      omega
end
end G
end
section
set_option Elab.async false
set_option linter.all false
set_option maxRecDepth 100000
set_option maxHeartbeats 1000000
namespace G
open PySem PySem.Spec PyProof.Rows L2
open GM (WF MsgOk Srt)
open Vbemar (onNet)
def inR : List Int → List (Int × Int) → Bool
  | x :: xs, (lo, hi) :: rs => (decide (lo ≤ x) && decide (x ≤ hi)) && inR xs rs
  | _, _ => true
theorem for_zipT {K : PySem.W.Frag} {b c : Addr} {xs ys : List V} {g : TG} {tb : TS} {D : Ends} {σ : L2.St} {H : Hp} (Pv : Nat → L2.St → Hp → Prop) (h0 : Pv 0 σ H) (hl : ∀ i σ H, Pv i σ H → SqL K H b xs ∧ SqT K H c ys) (hlen : xs.length = ys.length)
    (hs : ∀ i x y σ H T, xs[i]? = some x → ys[i]? = some y → Pv i σ H → H T = none → g (.ref T) σ (upd H T (.tup [x, y])) fun σ2 H2 => tb { D with nx := Pv (i + 1), ct := Pv (i + 1), bk := D.nx } σ2 H2) (hd : ∀ σ H, Pv xs.length σ H → D.nx σ H) :
    ∃ W : Nat → Nat → L2.St → Hp → Prop, (∃ m, W 0 m σ H) ∧ ∀ i m σ H, W i m σ H →
      ((Itzt K b c).stop i H ∧ D.nx σ H) ∨ ((Itzt K b c).go i H ∧ ∃ N : L2.St → Hp → Prop, (∀ σ' H', N σ' H' → ∃ m', m' < m ∧ W (i + 1) m' σ' H') ∧ ∀ x H', (Itzt K b c).yld i H x H' → g x σ H' fun σ2 H2 => tb { D with nx := N, ct := N, bk := D.nx } σ2 H2) := by
  refine ⟨fun i m σ H => m = xs.length - i ∧ i ≤ xs.length ∧ Pv i σ H, ⟨xs.length, by simp, Nat.zero_le _, h0⟩, ?_⟩
  rintro i m σ H ⟨rfl, hi, p⟩
  obtain ⟨q1, q2⟩ := hl i σ H p
  by_cases hlt : i < xs.length
  · have hlt2 : i < ys.length := by omega
    refine .inr ⟨⟨xs, ys, xs[i], ys[i], q1, q2, List.getElem?_eq_getElem hlt, List.getElem?_eq_getElem hlt2⟩, Pv (i + 1), fun σ' H' p' => ⟨xs.length - (i + 1), by omega, rfl, hlt, p'⟩, fun x H' y => ?_⟩
    obtain ⟨T, u, v, e1, e2, e3, e4, e5⟩ := y
    subst e1 e3
    exact hs i u v σ H T (e4 xs q1) (e5 ys q2) p e2
  · have e : i = xs.length := by omega
    subst e
    exact .inl ⟨⟨xs, ys, q1, q2, .inl (Nat.le_refl _)⟩, hd σ H p⟩
theorem Paired.at {α β : Type} {F : α → β → Prop} : ∀ {l : List α} {m : List β}, Paired F l m → ∀ {i : Nat} {y : β}, m[i]? = some y → ∃ x, l[i]? = some x ∧ F x y
  | _, _, .nil, i, y, h => by simp at h
  | _, _, .cons r t, 0, y, h => by
    have e := Option.some.inj h
    subst e
    exact ⟨_, rfl, r⟩
  | _, _, .cons r t, i + 1, y, h => Paired.at t (i := i) h
section
variable {P : Program} {w : World} {K : PySem.W.Frag} {mg : Str → Option Value} {base : Heap} {a : Ad}
def sp_width_of : Sp := fun vs H Q _ => ∃ (c : Int) (rs : List (Int × Int)), vs = [.int c] ∧ (c, rs) ∈ tab_RANGES ∧ Q (.int rs.length) H
theorem nd_ranges : (tab_RANGES.map (·.1)).Nodup := by decide
theorem ok_width_of (T : Txt K mg a) : FnOk P w K mg base CX0 1 a.f_width_of a.d_width_of ["call"] sp_width_of := by
  refine T.width_of.fn.ok sc_width_of (fun vs H Q E h => ?_) (fun cdv A outer s H vs Q E hr h => ?_)
  · obtain ⟨c, rs, rfl, _⟩ := h
    rfl
  · obtain ⟨c, rs, rfl, hc, k⟩ := h
    obtain ⟨kvs, md, get⟩ := tbl_get (P := P) (w := w) T.tb_RANGES T.ts_RANGES nd_ranges
    obtain ⟨t, us, hv, ht, hu⟩ := get c rs hc
    refine ⟨_, (pss_one (ps_ret (pe_callB call_len_seq (by rfl) T.b_len PySem.boot_len (pa_cons (pe_mdget (pe_glob (v := .ref a.t_RANGES) (by rfl) T.mg_RANGES rfl) (pv 0) (fun _ _ => rfl)) pa_nil)))), ?_⟩
    refine ⟨_, rfl, a.t_RANGES, kvs, .inl c, .ref t, rfl, md, rfl, hv, t, _, rfl, .inr (ht.sq _), ?_⟩
    rw [List.length_map, Paired.length hu]
    exact k
def sp_in_ranges : Sp := fun vs H Q _ => ∃ (c : Int) (nl : Addr) (ns : List Int) (rs : List (Int × Int)), vs = [.int c, .ref nl] ∧ H nl = some (.lst (ns.map V.int)) ∧ (c, rs) ∈ tab_RANGES ∧ ns.length = rs.length ∧
  ∀ H' : Hp, Same H H' → Q (.bl (inR ns rs)) H'
theorem ok_in_ranges (T : Txt K mg a) : FnOk P w K mg base CX0 1 a.f_in_ranges a.d_in_ranges ["call", "numbers"] sp_in_ranges := by
  refine T.in_ranges.fn.ok sc_in_ranges (fun vs H Q E h => ?_) (fun cdv A outer s H vs Q E hr h => ?_)
  · obtain ⟨c, nl, ns, rs, rfl, _⟩ := h
    rfl
  · obtain ⟨c, nl, ns, rs, rfl, hnl, hc, hlen, k⟩ := h
    obtain ⟨kvs, md, get⟩ := tbl_get (P := P) (w := w) T.tb_RANGES T.ts_RANGES nd_ranges
    obtain ⟨t, us, hv, ht, hu⟩ := get c rs hc
    have hul : us.length = rs.length := Paired.length hu
    refine ⟨_, (pss_cons (ps_for PassesOwn.never rfl (pi_zipT (by rfl) T.b_zip (pa_cons (pv 1) (pa_cons (pe_mdget (pe_glob (v := .ref a.t_RANGES) (by rfl) T.mg_RANGES rfl) (pv 0) (fun _ _ => rfl)) pa_nil))) (pg_tup rfl (pgs_cons (pg_name (i := 2) sc_in_ranges.nd rfl (Or.inl rfl)) (pgs_cons (pg_name (i := 3) sc_in_ranges.nd rfl (Or.inl rfl)) pgs_nil))) (pss_one (ps_if (pw_or (pt_cmpR op_lt (pv 2) (pe_ix ix_tup (pv 3) pe_int (fun _ _ => rfl)) (nomark _)) (pw_or1 (pt_cmpR op_gt (pv 2) (pe_ix ix_tup (pv 3) pe_int (fun _ _ => rfl)) (nomark _)))).pt (pss_one (ps_ret pe_bl)) pss_nil))) (pss_one (ps_ret pe_bl))), ?_⟩
    refine ⟨_, rfl, _, rfl, a.t_RANGES, kvs, .inl c, .ref t, rfl, md, rfl, hv, nl, t, _, _, rfl, SqL.of hnl, ht.sq _, ?_⟩
    refine for_zipT (xs := ns.map V.int) (ys := us.map V.ref) (fun i σ H' => ∃ v2 v3 : Option V, σ = [some (.int c), some (.ref nl), v2, v3] ∧ Same H H' ∧ inR ns rs = inR (ns.drop i) (rs.drop i)) ⟨none, none, rfl, Same.refl _, rfl⟩
      (fun i σ H' ⟨_, _, _, s1, _⟩ => ⟨SqL.of (s1 _ _ hnl), ht.sq _⟩) (by rw [List.length_map, List.length_map, hlen, hul]) ?_ ?_
    · rintro i x y σ H1 Tt hx hy ⟨v2, v3, rfl, s1, e1⟩ hT
      have hi : i < ns.length := by have := (List.getElem?_eq_some_iff.mp hx).1; rwa [List.length_map] at this
      have hir : i < rs.length := by omega
      obtain ⟨u, hu1, hu2⟩ := Paired.at hu (i := i) (List.getElem?_eq_getElem hir)
      rw [List.getElem?_map, List.getElem?_eq_getElem hi] at hx
      rw [List.getElem?_map, hu1] at hy
      cases hx
      cases hy
      have e2 : inR ns rs = ((decide (rs[i].1 ≤ ns[i]) && decide (ns[i] ≤ rs[i].2)) && inR (ns.drop (i + 1)) (rs.drop (i + 1))) := by
        rw [e1, List.drop_eq_getElem_cons hi, List.drop_eq_getElem_cons hir]
        rfl
      have s2 : Same H (upd H1 Tt (.tup [.int ns[i], .ref u])) := s1.trans (same_new hT)
      refine ⟨Tt, _, rfl, SqT.of upd_same, rfl, _, _, rfl, _, _, rfl, rfl, ?_⟩
      by_cases c1 : ns[i] < rs[i].1
      · refine ⟨_, rfl, _, rfl, u, _, _, _, rfl, rfl, hu2.sq _, at_of (j := 0) rfl rfl, _, _, rfl, rfl, _, rfl, dT c1 ?_⟩
        have e3 : inR ns rs = false := by rw [e2, decide_eq_false (by omega)]; rfl
        have q := k _ s2
        rw [e3] at q
        exact q
      by_cases c2 : rs[i].2 < ns[i]
      · refine ⟨_, rfl, _, rfl, u, _, _, _, rfl, rfl, hu2.sq _, at_of (j := 0) rfl rfl, _, _, rfl, rfl, _, rfl, dF c1 ⟨_, rfl, _, rfl, u, _, _, _, rfl, rfl, hu2.sq _, at_of (j := 1) rfl rfl, _, _, rfl, rfl, _, rfl, dT c2 ?_⟩⟩
        have e3 : inR ns rs = false := by rw [e2, decide_eq_false (p := ns[i] ≤ rs[i].2) (by omega), Bool.and_false]; rfl
        have q := k _ s2
        rw [e3] at q
        exact q
      refine ⟨_, rfl, _, rfl, u, _, _, _, rfl, rfl, hu2.sq _, at_of (j := 0) rfl rfl, _, _, rfl, rfl, _, rfl, dF c1 ⟨_, rfl, _, rfl, u, _, _, _, rfl, rfl, hu2.sq _, at_of (j := 1) rfl rfl, _, _, rfl, rfl, _, rfl, dF c2 ?_⟩⟩
      refine ⟨_, _, rfl, s2, ?_⟩
      rw [e2, decide_eq_true (by omega), decide_eq_true (by omega)]
      rfl
    · rintro σ H1 ⟨v2, v3, rfl, s1, e1⟩
      have e3 : inR ns rs = true := by
        rw [e1, List.length_map, List.drop_length]
        rfl
      have q := k _ s1
      rw [e3] at q
      exact q
/-- the session and what it holds -/
def SRep (a : Ad) (H : Hp) (t : Tg) (s : Addr) (st : Vbemar.State) : Prop := ∃ (dx : Addr) (v : V), H s = some (.ins a.cSes dx (zf v)) ∧ t s = none ∧ (∀ b, H b = none → t b = none) ∧
  match st.net with
  | none => v = .non
  | some N => ∃ m L, v = .ref m ∧ Rep a.toAdr H t m L N
/-- what leaves all but the session and marked, changing things as they were -/
structure Fs (s : Addr) (t t' : Tg) (H H' : Hp) : Prop where
  old : ∀ b o, H b = some o → b ≠ s → (t b = none ∨ t b = some .fix) → H' b = some o
  tag : ∀ b, H b ≠ none → t' b = t b
  live : ∀ b, H b ≠ none → H' b ≠ none
theorem Fm.fs {s : Addr} {t t' : Tg} {H H' : Hp} (f : Fm t t' H H') : Fs s t t' H H' := ⟨fun b o e _ k => f.old b o e k, f.tag, f.live⟩
theorem Fs.trans {s : Addr} {t t1 t2 : Tg} {H H1 H2 : Hp} (a : Fs s t t1 H H1) (b : Fs s t1 t2 H1 H2) : Fs s t t2 H H2 where
  old := fun c o h n k => b.old c o (a.old c o h n k) n (by rw [a.tag c (by rw [h]; exact fun e => nomatch e)]; exact k)
  tag := fun c h => (b.tag c (a.live c h)).trans (a.tag c h)
  live := fun c h => b.live c (a.live c h)
theorem dec_ok {c : Int} {rs : List (Int × Int)} {ns : List Int} (h : (c, rs) ∈ tab_RANGES) (hl : ns.length = rs.length) : ∃ cl, Vbemar.decode [c :: ns] = some cl ∧ Vbemar.inRange cl = inR ns rs := by
  simp only [tab_RANGES, List.mem_cons, Prod.mk.injEq, List.not_mem_nil, or_false] at h
  rcases h with ⟨rfl, rfl⟩ | ⟨rfl, rfl⟩ | ⟨rfl, rfl⟩ | ⟨rfl, rfl⟩ | ⟨rfl, rfl⟩ | ⟨rfl, rfl⟩ | ⟨rfl, rfl⟩ | ⟨rfl, rfl⟩ | ⟨rfl, rfl⟩ | ⟨rfl, rfl⟩ | ⟨rfl, rfl⟩ | ⟨rfl, rfl⟩ | ⟨rfl, rfl⟩ | ⟨rfl, rfl⟩ | ⟨rfl, rfl⟩ | ⟨rfl, rfl⟩ | ⟨rfl, rfl⟩ | ⟨rfl, rfl⟩ | ⟨rfl, rfl⟩
  · match ns, hl with
    | [p, q, r], _ => exact ⟨.open_ p q r, rfl, by (simp [Vbemar.inRange, Vbemar.isParty, Vbemar.isQuarter, Vbemar.isPlace, Vbemar.within, inR, Vbemar.QMAX]) <;> rfl⟩
  · match ns, hl with
    | [p, q, r, x], _ => exact ⟨.write p q r x, rfl, by (simp [Vbemar.inRange, Vbemar.isParty, Vbemar.isQuarter, Vbemar.isPlace, Vbemar.within, inR, Vbemar.QMAX]) <;> rfl⟩
  · match ns, hl with
    | [p], _ => exact ⟨.clear p, rfl, by (simp [Vbemar.inRange, Vbemar.isParty, Vbemar.isQuarter, Vbemar.isPlace, Vbemar.within, inR, Vbemar.QMAX]) <;> rfl⟩
  · match ns, hl with
    | [p], _ => exact ⟨.send p, rfl, by (simp [Vbemar.inRange, Vbemar.isParty, Vbemar.isQuarter, Vbemar.isPlace, Vbemar.within, inR, Vbemar.QMAX]) <;> rfl⟩
  · match ns, hl with
    | [], _ => exact ⟨.tick, rfl, by (simp [Vbemar.inRange, Vbemar.isParty, Vbemar.isQuarter, Vbemar.isPlace, Vbemar.within, inR, Vbemar.QMAX]) <;> rfl⟩
  · match ns, hl with
    | [p], _ => exact ⟨.deliver p, rfl, by (simp [Vbemar.inRange, Vbemar.isParty, Vbemar.isQuarter, Vbemar.isPlace, Vbemar.within, inR, Vbemar.QMAX]) <;> rfl⟩
  · match ns, hl with
    | [p], _ => exact ⟨.lose p, rfl, by (simp [Vbemar.inRange, Vbemar.isParty, Vbemar.isQuarter, Vbemar.isPlace, Vbemar.within, inR, Vbemar.QMAX]) <;> rfl⟩
  · match ns, hl with
    | [p], _ => exact ⟨.double p, rfl, by (simp [Vbemar.inRange, Vbemar.isParty, Vbemar.isQuarter, Vbemar.isPlace, Vbemar.within, inR, Vbemar.QMAX]) <;> rfl⟩
  · match ns, hl with
    | [p], _ => exact ⟨.calm p, rfl, by (simp [Vbemar.inRange, Vbemar.isParty, Vbemar.isQuarter, Vbemar.isPlace, Vbemar.within, inR, Vbemar.QMAX]) <;> rfl⟩
  · match ns, hl with
    | [p], _ => exact ⟨.party p, rfl, by (simp [Vbemar.inRange, Vbemar.isParty, Vbemar.isQuarter, Vbemar.isPlace, Vbemar.within, inR, Vbemar.QMAX]) <;> rfl⟩
  · match ns, hl with
    | [p], _ => exact ⟨.house p, rfl, by (simp [Vbemar.inRange, Vbemar.isParty, Vbemar.isQuarter, Vbemar.isPlace, Vbemar.within, inR, Vbemar.QMAX]) <;> rfl⟩
  · match ns, hl with
    | [p], _ => exact ⟨.draft p, rfl, by (simp [Vbemar.inRange, Vbemar.isParty, Vbemar.isQuarter, Vbemar.isPlace, Vbemar.within, inR, Vbemar.QMAX]) <;> rfl⟩
  · match ns, hl with
    | [p], _ => exact ⟨.held p, rfl, by (simp [Vbemar.inRange, Vbemar.isParty, Vbemar.isQuarter, Vbemar.isPlace, Vbemar.within, inR, Vbemar.QMAX]) <;> rfl⟩
  · match ns, hl with
    | [p], _ => exact ⟨.final p, rfl, by (simp [Vbemar.inRange, Vbemar.isParty, Vbemar.isQuarter, Vbemar.isPlace, Vbemar.within, inR, Vbemar.QMAX]) <;> rfl⟩
  · match ns, hl with
    | [p], _ => exact ⟨.belief p, rfl, by (simp [Vbemar.inRange, Vbemar.isParty, Vbemar.isQuarter, Vbemar.isPlace, Vbemar.within, inR, Vbemar.QMAX]) <;> rfl⟩
  · match ns, hl with
    | [], _ => exact ⟨.flying, rfl, by (simp [Vbemar.inRange, Vbemar.isParty, Vbemar.isQuarter, Vbemar.isPlace, Vbemar.within, inR, Vbemar.QMAX]) <;> rfl⟩
  · match ns, hl with
    | [], _ => exact ⟨.unmatched, rfl, by (simp [Vbemar.inRange, Vbemar.isParty, Vbemar.isQuarter, Vbemar.isPlace, Vbemar.within, inR, Vbemar.QMAX]) <;> rfl⟩
  · match ns, hl with
    | [], _ => exact ⟨.now, rfl, by (simp [Vbemar.inRange, Vbemar.isParty, Vbemar.isQuarter, Vbemar.isPlace, Vbemar.within, inR, Vbemar.QMAX]) <;> rfl⟩
  · match ns, hl with
    | [p], _ => exact ⟨.total p, rfl, by (simp [Vbemar.inRange, Vbemar.isParty, Vbemar.isQuarter, Vbemar.isPlace, Vbemar.within, inR, Vbemar.QMAX]) <;> rfl⟩
theorem in1 {x lo hi : Int} (h : inR [x] [(lo, hi)] = true) : lo ≤ x ∧ x ≤ hi := by
  simpa [inR] using h
theorem in4 {p q r x a b c d e f g i : Int} (h : inR [p, q, r, x] [(a, b), (c, d), (e, f), (g, i)] = true) : (a ≤ p ∧ p ≤ b) ∧ (c ≤ q ∧ q ≤ d) ∧ (e ≤ r ∧ r ≤ f) := by
  simp [inR] at h
  omega
theorem hd_all (T : Txt K mg a) {c : Int} {rs : List (Int × Int)} {ns : List Int} (h : (c, rs) ∈ tab_RANGES) (h0 : c ≠ 0) (hl : ns.length = rs.length) (hi : inR ns rs = true) :
    ∃ (cl : Vbemar.Call) (f : Addr) (k : Nat) (fd : FuncData) (R : Net → List Int → Vbemar.Call → Prop), Vbemar.decode [c :: ns] = some cl ∧ (∀ p q g, cl ≠ .open_ p q g) ∧ (∀ N : Net, (inV (.int c) (tab_PARTY_CALLS.map V.int) = true → ∀ p l, ns = p :: l → ¬ (N.parties.length : Int) < p) → R N ns cl) ∧ (c, f) ∈ tab_HANDLERS a ∧ FnOk P w K mg base CX0 k f fd ["market", "numbers"] (sp_hd a R) ∧ k ≤ 7 ∧ PySem.W.keepIn K (.ref f) = true ∧ Binds K fd ["market", "numbers"] [] := by
  simp only [tab_RANGES, List.mem_cons, Prod.mk.injEq, List.not_mem_nil, or_false] at h
  rcases h with ⟨rfl, rfl⟩ | ⟨rfl, rfl⟩ | ⟨rfl, rfl⟩ | ⟨rfl, rfl⟩ | ⟨rfl, rfl⟩ | ⟨rfl, rfl⟩ | ⟨rfl, rfl⟩ | ⟨rfl, rfl⟩ | ⟨rfl, rfl⟩ | ⟨rfl, rfl⟩ | ⟨rfl, rfl⟩ | ⟨rfl, rfl⟩ | ⟨rfl, rfl⟩ | ⟨rfl, rfl⟩ | ⟨rfl, rfl⟩ | ⟨rfl, rfl⟩ | ⟨rfl, rfl⟩ | ⟨rfl, rfl⟩ | ⟨rfl, rfl⟩
  · exact absurd rfl h0
  · match ns, hl with
    | [p, q, r, x], _ => exact ⟨.write p q r x, a.f_write_call, _, _, r_write, rfl, (fun _ _ _ e => nomatch e), (fun N hN => ⟨p, q, r, x, rfl, rfl, ⟨(in4 hi).1.1, hN rfl p _ rfl⟩, (in4 hi).2.1, (in4 hi).2.2⟩), by simp [tab_HANDLERS], ok_write_call T, by decide, T.write_call.fn.kp, T.write_call.bd⟩
  · match ns, hl with
    | [p], _ => exact ⟨.clear p, a.f_clear_call, _, _, (r_p .clear), rfl, (fun _ _ _ e => nomatch e), (fun N hN => ⟨p, rfl, rfl, (in1 hi).1, hN rfl p _ rfl⟩), by simp [tab_HANDLERS], ok_clear_call T, by decide, T.clear_call.fn.kp, T.clear_call.bd⟩
  · match ns, hl with
    | [p], _ => exact ⟨.send p, a.f_send_call, _, _, (r_p .send), rfl, (fun _ _ _ e => nomatch e), (fun N hN => ⟨p, rfl, rfl, (in1 hi).1, hN rfl p _ rfl⟩), by simp [tab_HANDLERS], ok_send_call T, by decide, T.send_call.fn.kp, T.send_call.bd⟩
  · match ns, hl with
    | [], _ => exact ⟨.tick, a.f_tick_call, _, _, r_tick, rfl, (fun _ _ _ e => nomatch e), (fun _ _ => ⟨rfl, rfl⟩), by simp [tab_HANDLERS], ok_tick_call T, by decide, T.tick_call.fn.kp, T.tick_call.bd⟩
  · match ns, hl with
    | [p], _ => exact ⟨.deliver p, a.f_deliver_call, _, _, (r_k .deliver), rfl, (fun _ _ _ e => nomatch e), (fun _ _ => ⟨p, rfl, rfl, (in1 hi).1, (in1 hi).2⟩), by simp [tab_HANDLERS], ok_deliver_call T, by decide, T.deliver_call.fn.kp, T.deliver_call.bd⟩
  · match ns, hl with
    | [p], _ => exact ⟨.lose p, a.f_lose_call, _, _, (r_k .lose), rfl, (fun _ _ _ e => nomatch e), (fun _ _ => ⟨p, rfl, rfl, (in1 hi).1, (in1 hi).2⟩), by simp [tab_HANDLERS], ok_lose_call T, by decide, T.lose_call.fn.kp, T.lose_call.bd⟩
  · match ns, hl with
    | [p], _ => exact ⟨.double p, a.f_double_call, _, _, (r_k .double), rfl, (fun _ _ _ e => nomatch e), (fun _ _ => ⟨p, rfl, rfl, (in1 hi).1, (in1 hi).2⟩), by simp [tab_HANDLERS], ok_double_call T, by decide, T.double_call.fn.kp, T.double_call.bd⟩
  · match ns, hl with
    | [p], _ => exact ⟨.calm p, a.f_calm_call, _, _, r_calm, rfl, (fun _ _ _ e => nomatch e), (fun _ _ => ⟨p, rfl, rfl, (in1 hi).1, (in1 hi).2⟩), by simp [tab_HANDLERS], ok_calm_call T, by decide, T.calm_call.fn.kp, T.calm_call.bd⟩
  · match ns, hl with
    | [p], _ => exact ⟨.party p, a.f_party_call, _, _, (r_p .party), rfl, (fun _ _ _ e => nomatch e), (fun N hN => ⟨p, rfl, rfl, (in1 hi).1, hN rfl p _ rfl⟩), by simp [tab_HANDLERS], ok_party_call T, by decide, T.party_call.fn.kp, T.party_call.bd⟩
  · match ns, hl with
    | [p], _ => exact ⟨.house p, a.f_house_call, _, _, (r_p .house), rfl, (fun _ _ _ e => nomatch e), (fun N hN => ⟨p, rfl, rfl, (in1 hi).1, hN rfl p _ rfl⟩), by simp [tab_HANDLERS], ok_house_call T, by decide, T.house_call.fn.kp, T.house_call.bd⟩
  · match ns, hl with
    | [p], _ => exact ⟨.draft p, a.f_draft_call, _, _, (r_p .draft), rfl, (fun _ _ _ e => nomatch e), (fun N hN => ⟨p, rfl, rfl, (in1 hi).1, hN rfl p _ rfl⟩), by simp [tab_HANDLERS], ok_draft_call T, by decide, T.draft_call.fn.kp, T.draft_call.bd⟩
  · match ns, hl with
    | [p], _ => exact ⟨.held p, a.f_held_call, _, _, (r_p .held), rfl, (fun _ _ _ e => nomatch e), (fun N hN => ⟨p, rfl, rfl, (in1 hi).1, hN rfl p _ rfl⟩), by simp [tab_HANDLERS], ok_held_call T, by decide, T.held_call.fn.kp, T.held_call.bd⟩
  · match ns, hl with
    | [p], _ => exact ⟨.final p, a.f_final_call, _, _, (r_p .final), rfl, (fun _ _ _ e => nomatch e), (fun N hN => ⟨p, rfl, rfl, (in1 hi).1, hN rfl p _ rfl⟩), by simp [tab_HANDLERS], ok_final_call T, by decide, T.final_call.fn.kp, T.final_call.bd⟩
  · match ns, hl with
    | [p], _ => exact ⟨.belief p, a.f_belief_call, _, _, (r_p .belief), rfl, (fun _ _ _ e => nomatch e), (fun N hN => ⟨p, rfl, rfl, (in1 hi).1, hN rfl p _ rfl⟩), by simp [tab_HANDLERS], ok_belief_call T, by decide, T.belief_call.fn.kp, T.belief_call.bd⟩
  · match ns, hl with
    | [], _ => exact ⟨.flying, a.f_flying_call, _, _, r_flying, rfl, (fun _ _ _ e => nomatch e), (fun _ _ => ⟨rfl, rfl⟩), by simp [tab_HANDLERS], ok_flying_call T, by decide, T.flying_call.fn.kp, T.flying_call.bd⟩
  · match ns, hl with
    | [], _ => exact ⟨.unmatched, a.f_unmatched_call, _, _, r_unmatched, rfl, (fun _ _ _ e => nomatch e), (fun _ _ => ⟨rfl, rfl⟩), by simp [tab_HANDLERS], ok_unmatched_call T, by decide, T.unmatched_call.fn.kp, T.unmatched_call.bd⟩
  · match ns, hl with
    | [], _ => exact ⟨.now, a.f_now_call, _, _, r_now, rfl, (fun _ _ _ e => nomatch e), (fun _ _ => ⟨rfl, rfl⟩), by simp [tab_HANDLERS], ok_now_call T, by decide, T.now_call.fn.kp, T.now_call.bd⟩
  · match ns, hl with
    | [p], _ => exact ⟨.total p, a.f_total_call, _, _, r_total, rfl, (fun _ _ _ e => nomatch e), (fun _ _ => ⟨p, rfl, rfl, (in1 hi).1, (in1 hi).2⟩), by simp [tab_HANDLERS], ok_total_call T, by decide, T.total_call.fn.kp, T.total_call.bd⟩
theorem pc_all {c : Int} {rs : List (Int × Int)} {ns : List Int} (h : (c, rs) ∈ tab_RANGES) (hl : ns.length = rs.length) (hp : inV (.int c) (tab_PARTY_CALLS.map V.int) = true) :
    ∃ (p : Int) (l : List Int) (cl : Vbemar.Call), ns = p :: l ∧ Vbemar.decode [c :: ns] = some cl ∧ ∀ N : Net, (N.parties.length : Int) < p → onNet N cl = (N, [-3]) := by
  simp only [tab_RANGES, List.mem_cons, Prod.mk.injEq, List.not_mem_nil, or_false] at h
  rcases h with ⟨rfl, rfl⟩ | ⟨rfl, rfl⟩ | ⟨rfl, rfl⟩ | ⟨rfl, rfl⟩ | ⟨rfl, rfl⟩ | ⟨rfl, rfl⟩ | ⟨rfl, rfl⟩ | ⟨rfl, rfl⟩ | ⟨rfl, rfl⟩ | ⟨rfl, rfl⟩ | ⟨rfl, rfl⟩ | ⟨rfl, rfl⟩ | ⟨rfl, rfl⟩ | ⟨rfl, rfl⟩ | ⟨rfl, rfl⟩ | ⟨rfl, rfl⟩ | ⟨rfl, rfl⟩ | ⟨rfl, rfl⟩ | ⟨rfl, rfl⟩
  · exact absurd hp (by decide)
  · match ns, hl with
    | [p, q, r, x], _ => exact ⟨p, _, .write p q r x, rfl, rfl, fun N h => if_pos (.inl (missing_iff.mpr h))⟩
  · match ns, hl with
    | [p], _ => exact ⟨p, _, .clear p, rfl, rfl, fun N h => if_pos (missing_iff.mpr h)⟩
  · match ns, hl with
    | [p], _ => exact ⟨p, _, .send p, rfl, rfl, fun N h => if_pos (missing_iff.mpr h)⟩
  · exact absurd hp (by decide)
  · exact absurd hp (by decide)
  · exact absurd hp (by decide)
  · exact absurd hp (by decide)
  · exact absurd hp (by decide)
  · match ns, hl with
    | [p], _ => exact ⟨p, _, .party p, rfl, rfl, fun N h => if_pos (missing_iff.mpr h)⟩
  · match ns, hl with
    | [p], _ => exact ⟨p, _, .house p, rfl, rfl, fun N h => if_pos (missing_iff.mpr h)⟩
  · match ns, hl with
    | [p], _ => exact ⟨p, _, .draft p, rfl, rfl, fun N h => if_pos (missing_iff.mpr h)⟩
  · match ns, hl with
    | [p], _ => exact ⟨p, _, .held p, rfl, rfl, fun N h => if_pos (missing_iff.mpr h)⟩
  · match ns, hl with
    | [p], _ => exact ⟨p, _, .final p, rfl, rfl, fun N h => if_pos (missing_iff.mpr h)⟩
  · match ns, hl with
    | [p], _ => exact ⟨p, _, .belief p, rfl, rfl, fun N h => if_pos (missing_iff.mpr h)⟩
  · exact absurd hp (by decide)
  · exact absurd hp (by decide)
  · exact absurd hp (by decide)
  · exact absurd hp (by decide)
theorem nd_handlers : ((tab_HANDLERS a).map (·.1)).Nodup := by
  show ([1, 2, 3, 4, 5, 6, 7, 8, 9, 10, 11, 12, 13, 14, 15, 16, 17, 18] : List Int).Nodup
  decide
theorem step_some {st : Vbemar.State} {cl : Vbemar.Call} {N : Net} (h : ∀ p q g, cl ≠ .open_ p q g) (hi : Vbemar.inRange cl = true) (hn : st.net = some N) : Vbemar.step st cl = ({ net := some (onNet N cl).1 }, (onNet N cl).2) := by
  unfold Vbemar.step
  rw [hi, hn]
  cases cl <;> first | rfl | exact absurd rfl (h _ _ _)
theorem step_none {st : Vbemar.State} {cl : Vbemar.Call} (h : ∀ p q g, cl ≠ .open_ p q g) (hi : Vbemar.inRange cl = true) (hn : st.net = none) : Vbemar.step st cl = (st, [-2]) := by
  unfold Vbemar.step
  rw [hi, hn]
  cases cl <;> first | rfl | exact absurd rfl (h _ _ _)
theorem SRep.grow {H H' : Hp} {t t' : Tg} {s : Addr} {st : Vbemar.State} (r : SRep a H t s st) (g : Grow t t' H H') (tl' : ∀ b, H' b = none → t' b = none) : SRep a H' t' s st := by
  obtain ⟨dx, v, hs, ts, tl, hv⟩ := r
  refine ⟨dx, v, g.same _ _ hs, (g.tag s (live_of hs)).trans ts, tl', ?_⟩
  cases e : st.net with
  | none =>
    rw [e] at hv
    exact hv
  | some N =>
    rw [e] at hv
    obtain ⟨m, L, ev, r⟩ := hv
    exact ⟨m, L, ev, r.grow g tl'⟩
def sp_answer_call (a : Ad) : Sp := fun vs H Q _ => ∃ (t : Tg) (s : Addr) (st : Vbemar.State) (nl : Addr) (c : Int) (rs : List (Int × Int)) (ns : List Int), vs = [.ref s, .int c, .ref nl] ∧ SRep a H t s st ∧ H nl = some (.lst (ns.map V.int)) ∧ t nl = none ∧
  (c, rs) ∈ tab_RANGES ∧ ns.length = rs.length ∧ ∀ (H' : Hp) (t' : Tg) (p : Addr), SRep a H' t' s (Vbemar.stepNumbers st [c :: ns]).1 → H' p = some (.lst ((Vbemar.stepNumbers st [c :: ns]).2.map V.int)) → t' p = none → H p = none → Fs s t t' H H' → Q (.ref p) H'
theorem ok_answer_call (T : Txt K mg a) : FnOk P w K mg base CX0 8 a.f_answer_call a.d_answer_call ["session", "call", "numbers"] (sp_answer_call a) := by
  refine T.answer_call.fn.ok sc_answer_call (fun vs H Q E h => ?_) (fun cdv A outer sh H vs Q E hr h => ?_)
  · obtain ⟨t, s, st, nl, c, rs, ns, rfl, _⟩ := h
    rfl
  · obtain ⟨t, s, st, nl, c, rs, ns, rfl, R, hnl, tnl, hc, hlen, k⟩ := h
    obtain ⟨cl, hd, hir⟩ := dec_ok hc hlen
    have esn : Vbemar.stepNumbers st [c :: ns] = Vbemar.step st cl := by
      unfold Vbemar.stepNumbers
      rw [hd]
    rw [esn] at k
    refine ⟨_, (pss_cons (ps_if (pt_not (pt_truth (pe_call (ok_in_ranges T) (hr.mono (by decide)) (by rfl) T.in_ranges.mg T.in_ranges.fn.kp T.in_ranges.bd .nil pass0 (pa_cons (pv 1) (pa_cons (pv 2) pa_nil))) (fun _ => rfl))) (pss_one (ps_ret (pe_lst (pa_cons (pe_gint T.c_OUT_OF_RANGE) pa_nil)))) pss_nil) (pss_cons (ps_if (pt_cmpR op_eq (pv 1) (pe_gint T.c_CALL_OPEN) (nomark _)) (pss_cons (ps_fld (pv 0) (pe_make T.Market_init.maker (ok_Market_init T) (hr.mono (by decide)) (by rfl) T.mg_Market T.Market_init.bd .nil pass0 (pa_cons (pe_ix ix_list (pv 2) pe_int (fun _ _ => rfl)) (pa_cons (pe_ix ix_list (pv 2) pe_int (fun _ _ => rfl)) (pa_cons (pe_ix ix_list (pv 2) pe_int (fun _ _ => rfl)) pa_nil)))) rfl) (pss_one (ps_ret (pe_lst (pa_cons (pe_gint T.c_ACCEPTED) pa_nil))))) pss_nil) (pss_cons (ps_set (i := 3) sc_answer_call.nd rfl (Or.inl rfl) (pe_fld (pv 0) rfl)) (pss_cons (ps_if (pt_cmpR op_isN (pv 3) pe_non (nomark _)) (pss_one (ps_ret (pe_lst (pa_cons (pe_gint T.c_NOTHING_OPEN) pa_nil)))) pss_nil) (pss_cons (ps_if (pw_and (pt_cmpR op_in_seq (pv 1) (pe_glob (v := .ref a.t_PARTY_CALLS) (by rfl) T.mg_PARTY_CALLS rfl) (by with_unfolding_all rfl)) (pw_and1 (pt_cmpR op_gt (pe_ix ix_list (pv 2) pe_int (fun _ _ => rfl)) (pe_fld (pv 3) rfl) (nomark _)))).pt (pss_one (ps_ret (pe_lst (pa_cons (pe_gint T.c_NO_SUCH_PARTY) pa_nil)))) pss_nil) (pss_cons (ps_set (i := 4) sc_answer_call.nd rfl (Or.inl rfl) (pe_mdget (pe_glob (v := .ref a.t_HANDLERS) (by rfl) T.mg_HANDLERS rfl) (pv 1) (fun _ _ => rfl))) (pss_one (ps_ret (pe_callV (pv 4) (pa_cons (pv 3) (pa_cons (pv 2) pa_nil))))))))))), ?_⟩
    refine ⟨_, rfl, _, rfl, c, nl, ns, rs, rfl, hnl, hc, hlen, fun H1 s1 => ⟨_, rfl, ?_⟩⟩
    obtain ⟨_, _, _, _, tl0, _⟩ := id R
    obtain ⟨g1, tl1⟩ := growS tl0 s1
    have R1 := R.grow g1 tl1
    have fin : ∀ {H2 : Hp} {t2 : Tg} {st' : Vbemar.State} {l : List Int} {p : Addr}, SRep a H2 t2 s st' → Vbemar.step st cl = (st', l) → Fs s t t2 H H2 → H2 p = none → Q (.ref p) (upd H2 p (.lst (l.map V.int))) := fun {H2 t2 st' l p} R2 e f hp => by
      obtain ⟨_, _, _, _, tl2, _⟩ := id R2
      obtain ⟨g2, tl3⟩ := grow0 (o := .lst (l.map V.int)) tl2 hp
      refine k _ t2 p (by rw [e]; exact R2.grow g2 tl3) (by rw [e, upd_same]) (tl2 p hp) ?_ (f.trans g2.fm.fs)
      cases e0 : H p with
      | none => rfl
      | some o => exact absurd hp (f.live p (live_of e0))
    cases hI : inR ns rs with
    | false =>
      refine ⟨(by show 1 ≤ sizeLine; decide), fun p hp => fin (l := [-1]) R1 ?_ g1.fm.fs hp⟩
      unfold Vbemar.step
      rw [hir, hI]
      rfl
    | true =>
    rw [hI] at hir
    by_cases c0 : c = 0
    · -- open
      subst c0
      have hrs : rs = [(2, 4), (1, 3), (1, 100)] := by
        simpa [tab_RANGES] using hc
      subst hrs
      match ns, hlen, hnl, hd, hir, hI with
      | [p, q, g], _, hnl, hd, hir, hI =>
        have hcl : Vbemar.Call.open_ p q g = cl := Option.some.inj hd
        subst hcl
        have hb : (2 ≤ p ∧ p ≤ 4) ∧ (1 ≤ q ∧ q ≤ 3) ∧ (1 ≤ g ∧ g ≤ 100) := by
          simp [inR] at hI
          omega
        obtain ⟨ds, v, hs, ts, tl, hv⟩ := id R1
        have hnl1 := s1 _ _ hnl
        refine ⟨_, rfl, rfl, _, rfl, dT rfl ?_⟩
        refine ⟨_, rfl, nl, _, _, _, rfl, rfl, SqL.of hnl1, at_of (j := 0) rfl rfl, _, rfl, nl, _, _, _, rfl, rfl, SqL.of hnl1, at_of (j := 1) rfl rfl, _, rfl, nl, _, _, _, rfl, rfl, SqL.of hnl1, at_of (j := 2) rfl rfl, ?_⟩
        intro x dx nx nd ne
        have S1 : Same H1 (upd (upd H1 dx (.own x)) x (.ins a.cMkt dx [])) := fun b o e => by
          rw [upd_ne (ne_of_none e nx), upd_ne (ne_of_none e nd)]
          exact e
        have ep : p = (p.toNat : Int) := by omega
        have eq : q = (q.toNat : Int) := by omega
        have eg : g = (g.toNat : Int) := by omega
        refine ⟨t, x, dx, p.toNat, q.toNat, g.toNat, by rw [← ep, ← eq, ← eg]; rfl, upd_same, fun b hb => tl b (S1.free hb), tl x nx, by omega, by omega, fun H2 t2 L2 r2 b2 tg2 => ⟨rfl, ?_⟩⟩
        have nsx : s ≠ x := ne_of_none hs nx
        have S2 : ∀ b o, H1 b = some o → H2 b = some o := fun b o e => b2 b o (S1 b o e) (ne_of_none e nx)
        have tg : ∀ b, H1 b ≠ none → t2 b = t b := fun b hb => by
          have bx : b ≠ x := fun e => hb (by rw [e]; exact nx)
          refine tg2 b ?_ bx
          cases e : H1 b with
          | none => exact absurd e hb
          | some o => exact live_of (S1 b o e)
        have ts2 : t2 s = none := (tg s (live_of hs)).trans ts
        refine ⟨_, rfl, s, _, ds, _, rfl, S2 _ _ hs, T.cl_Session, T.na_Session_market, few, ?_⟩
        have R3 : SRep a (upd H2 s (.ins a.cSes ds (zf (.ref x)))) t2 s { net := some (net0 p.toNat q.toNat g.toNat) } := ⟨ds, .ref x, upd_same, ts2, tl_upd r2.tl, x, L2, rfl, r2.other ts2⟩
        have f3 : Fs s t t2 H (upd H2 s (.ins a.cSes ds (zf (.ref x)))) := by
          refine ⟨fun b o e n _ => ?_, fun b hb => ?_, fun b hb => ?_⟩
          · rw [upd_ne n]
            exact S2 _ _ (s1 _ _ e)
          · refine tg b ?_
            cases e : H b with
            | none => exact absurd e hb
            | some o => exact live_of (s1 _ _ e)
          · by_cases n : b = s
            · rw [n, upd_same]
              exact some_ne
            · rw [upd_ne n]
              cases e : H b with
              | none => exact absurd e hb
              | some o => exact live_of (S2 _ _ (s1 _ _ e))
        refine ⟨(by show 1 ≤ sizeLine; decide), fun b hb => fin (l := [0]) R3 ?_ f3 hb⟩
        unfold Vbemar.step
        rw [hir]
        rfl
    · obtain ⟨cl', f, kk, fd, Rr, hd', hno, hR, hm, F, hk, hkp, hbd⟩ := hd_all (P := P) (w := w) (base := base) T hc c0 hlen hI
      rw [hd] at hd'
      cases hd'
      obtain ⟨kvs, md, get⟩ := hnd_get (P := P) (w := w) T.tb_HANDLERS T.ts_HANDLERS nd_handlers
      obtain ⟨ds, v, hs, ts, tl, hv⟩ := id R1
      refine ⟨_, rfl, rfl, _, rfl, dF (ne_int c0) ?_⟩
      refine ⟨_, rfl, s, _, ds, _, _, rfl, hs, T.cl_Session, T.na_Session_market, rfl, ?_⟩
      cases hn : st.net with
      | none =>
        rw [hn] at hv
        have ev : v = .non := hv
        refine ⟨_, rfl, rfl, _, rfl, dT ev ?_⟩
        exact ⟨(by show 1 ≤ sizeLine; decide), fun p hp => fin (l := [-2]) R1 (step_none hno hir hn) g1.fm.fs hp⟩
      | some N =>
        rw [hn] at hv
        obtain ⟨m, L, ev, r⟩ := hv
        subst ev
        obtain ⟨dm, hm0⟩ := r.mkt
        have es := step_some hno hir hn
        have kt := tup_get T.tb_PARTY_CALLS
        have last : (inV (.int c) (tab_PARTY_CALLS.map V.int) = true → ∀ p l, ns = p :: l → ¬ (N.parties.length : Int) < p) → sp_hd a Rr [.ref m, .ref nl] H1 Q E0 := fun hN => by
          refine ⟨t, m, L, N, nl, ns, cl, rfl, r, s1 _ _ hnl, tnl, hR N hN, fun H2 t2 L2 p r2 hp tp np f2 => ?_⟩
          have hs2 := f2.old s _ hs (.inl ts)
          refine k H2 t2 p ?_ (by rw [es]; exact hp) tp (s1.free np) (g1.fm.fs.trans f2.fs)
          rw [es]
          exact ⟨ds, .ref m, hs2, (f2.tag s (live_of hs)).trans ts, r2.tl, m, L2, rfl, r2⟩
        refine ⟨_, rfl, rfl, _, rfl, dF (fun e => nomatch e) ?_⟩
        refine ⟨_, rfl, a.t_PARTY_CALLS, _, rfl, .inr (kt.sq _), rfl, rfl, _, rfl, ?_⟩
        cases hP : inV (V.int c) (tab_PARTY_CALLS.map V.int) with
        | false =>
          refine ⟨_, rfl, a.t_HANDLERS, kvs, .inl c, .ref f, rfl, md, rfl, get c f hm, ?_⟩
          exact ⟨f, kk, fd, _, _, rfl, F, hr.mono hk, hkp, hbd, _, rfl, _, rfl, last (fun e => by rw [hP] at e; cases e)⟩
        | true =>
          obtain ⟨p, l, cl', rfl, hd2, h3⟩ := pc_all hc hlen hP
          rw [hd] at hd2
          cases hd2
          by_cases c1 : (N.parties.length : Int) < p
          · refine ⟨_, rfl, nl, _, _, _, rfl, rfl, SqL.of (s1 _ _ hnl), at_of (j := 0) rfl rfl, _, rfl, m, _, dm, _, _, rfl, hm0, T.cl_Market, T.na_Market_party_count, rfl, _, _, rfl, rfl, _, rfl, dT c1 ?_⟩
            have est : ({ net := some N } : Vbemar.State) = st := by
              cases st
              cases hn
              rfl
            exact ⟨(by show 1 ≤ sizeLine; decide), fun p hp => fin (l := [-3]) R1 (es.trans (by rw [h3 N c1]; exact congrArg (fun z => (z, [-3])) est)) g1.fm.fs hp⟩
          · refine ⟨_, rfl, nl, _, _, _, rfl, rfl, SqL.of (s1 _ _ hnl), at_of (j := 0) rfl rfl, _, rfl, m, _, dm, _, _, rfl, hm0, T.cl_Market, T.na_Market_party_count, rfl, _, _, rfl, rfl, _, rfl, dF c1 ?_⟩
            refine ⟨_, rfl, a.t_HANDLERS, kvs, .inl c, .ref f, rfl, md, rfl, get c f hm, ?_⟩
            exact ⟨f, kk, fd, _, _, rfl, F, hr.mono hk, hkp, hbd, _, rfl, _, rfl, last (fun _ p' l' e => by cases e; exact c1)⟩
end
end G
end
section
set_option Elab.async false
set_option linter.all false
set_option maxRecDepth 100000
set_option maxHeartbeats 1000000
namespace G
open PySem PySem.Spec PyProof.Rows L2
open GM (WF MsgOk Srt)
open Vbemar (onNet)
theorem shape_tab {c : Int} {n : Nat} (h : PyVbemar.shape c = some (n, 0)) : ∃ rs, (c, rs) ∈ tab_RANGES ∧ rs.length = n := by
  rcases GM.shape_cases h with ⟨rfl, e⟩ | ⟨rfl, e⟩ | ⟨rfl, e⟩ | ⟨rfl, e⟩ | ⟨rfl, e⟩ | ⟨rfl, e⟩ | ⟨rfl, e⟩ | ⟨rfl, e⟩ | ⟨rfl, e⟩ | ⟨rfl, e⟩ | ⟨rfl, e⟩ | ⟨rfl, e⟩ | ⟨rfl, e⟩ | ⟨rfl, e⟩ | ⟨rfl, e⟩ | ⟨rfl, e⟩ | ⟨rfl, e⟩ | ⟨rfl, e⟩ | ⟨rfl, e⟩
  · cases e; exact ⟨(tab_RANGES.lookup 0).getD [], by decide, by decide⟩
  · cases e; exact ⟨(tab_RANGES.lookup 1).getD [], by decide, by decide⟩
  · cases e; exact ⟨(tab_RANGES.lookup 2).getD [], by decide, by decide⟩
  · cases e; exact ⟨(tab_RANGES.lookup 3).getD [], by decide, by decide⟩
  · cases e; exact ⟨(tab_RANGES.lookup 4).getD [], by decide, by decide⟩
  · cases e; exact ⟨(tab_RANGES.lookup 5).getD [], by decide, by decide⟩
  · cases e; exact ⟨(tab_RANGES.lookup 6).getD [], by decide, by decide⟩
  · cases e; exact ⟨(tab_RANGES.lookup 7).getD [], by decide, by decide⟩
  · cases e; exact ⟨(tab_RANGES.lookup 8).getD [], by decide, by decide⟩
  · cases e; exact ⟨(tab_RANGES.lookup 9).getD [], by decide, by decide⟩
  · cases e; exact ⟨(tab_RANGES.lookup 10).getD [], by decide, by decide⟩
  · cases e; exact ⟨(tab_RANGES.lookup 11).getD [], by decide, by decide⟩
  · cases e; exact ⟨(tab_RANGES.lookup 12).getD [], by decide, by decide⟩
  · cases e; exact ⟨(tab_RANGES.lookup 13).getD [], by decide, by decide⟩
  · cases e; exact ⟨(tab_RANGES.lookup 14).getD [], by decide, by decide⟩
  · cases e; exact ⟨(tab_RANGES.lookup 15).getD [], by decide, by decide⟩
  · cases e; exact ⟨(tab_RANGES.lookup 16).getD [], by decide, by decide⟩
  · cases e; exact ⟨(tab_RANGES.lookup 17).getD [], by decide, by decide⟩
  · cases e; exact ⟨(tab_RANGES.lookup 18).getD [], by decide, by decide⟩
theorem sq_keep {K : PySem.W.Frag} {H H' : Hp} {c : Addr} {xs : List V} (h : SqL K H c xs) (k : ∀ o, H c = some o → H' c = some o) : SqL K H' c xs := by
  rcases h with (h | ⟨o, h⟩) | h
  · exact .inl (.inl (k _ h))
  · exact .inl (.inr ⟨o, k _ h⟩)
  · exact .inr h
theorem cut_at {xs : List V} {lo hi : Int} {j n : Nat} (e1 : lo = (j : Int)) (e2 : hi = ((j + n : Nat) : Int)) (h : j + n ≤ xs.length) : cutV xs (some lo) (some hi) = (xs.drop j).take n := by
  subst e1 e2
  unfold cutV
  rw [HT.sIx_nat, HT.sIx_nat, Nat.min_eq_left (by omega), Nat.min_eq_left (by omega), Nat.add_sub_cancel_left]
section
variable {P : Program} {w : World} {K : PySem.W.Frag} {mg : Str → Option Value} {base : Heap} {a : Ad}
theorem SRep.other {H : Hp} {t : Tg} {s p : Addr} {o : HO} {st : Vbemar.State} (r : SRep a H t s st) (tp : t p = none) (np : p ≠ s) : SRep a (upd H p o) t s st := by
  obtain ⟨dx, v, hs, ts, tl, hv⟩ := r
  refine ⟨dx, v, by rw [upd_ne (Ne.symm np)]; exact hs, ts, tl_upd tl, ?_⟩
  cases e : st.net with
  | none =>
    rw [e] at hv
    exact hv
  | some N =>
    rw [e] at hv
    obtain ⟨m, L, ev, r⟩ := hv
    exact ⟨m, L, ev, r.other tp⟩
theorem SRep.wf {H : Hp} {t : Tg} {s : Addr} {st : Vbemar.State} (r : SRep a H t s st) : ∀ N, st.net = some N → WF N := fun N e => by
  obtain ⟨dx, v, hs, ts, tl, hv⟩ := r
  rw [e] at hv
  obtain ⟨m, L, ev, r⟩ := hv
  exact r.wf
def sp_answers (K : PySem.W.Frag) : Sp := fun vs H Q _ => ∃ (c : Addr) (ns : List Int), vs = [.ref c] ∧ SqL K H c (ns.map V.int) ∧ PyVbemar.answers_asked ns = true ∧
  ∀ (H' : Hp) (p : Addr), H' p = some (.lst ((PyVbemar.answers ns).map V.int)) → Q (.ref p) H'
theorem ok_answers (T : Txt K mg a) : FnOk P w K mg base CX0 9 a.f_answers a.d_answers ["calls"] (sp_answers K) := by
  refine T.answers.fn.ok sc_answers (fun vs H Q E h => ?_) (fun cdv A outer sh H vs Q E hr h => ?_)
  · obtain ⟨c, ns, rfl, _⟩ := h
    rfl
  · obtain ⟨c, ns, rfl, hS, hask, k⟩ := h
    obtain ⟨cs, hcs, hc4, hans⟩ := GM.answers_start hask
    refine ⟨_, (pss_cons (ps_set (i := 1) sc_answers.nd rfl (Or.inl rfl) (pe_make0 T.Session_init.maker (ok_Session_init T) (hr.mono (by decide)) (by rfl) T.mg_Session T.Session_init.bd .nil pass0)) (pss_cons (ps_set (i := 2) sc_answers.nd rfl (Or.inl rfl) (pe_lst pa_nil)) (pss_cons (ps_set (i := 3) sc_answers.nd rfl (Or.inl rfl) pe_int) (pss_cons (ps_while PassesOwn.never (pt_cmpR op_lt (pv 3) (pe_callB call_len_seq (by rfl) T.b_len PySem.boot_len (pa_cons (pv 0) pa_nil)) (nomark _)) (pss_cons (ps_set (i := 4) sc_answers.nd rfl (Or.inl rfl) (pe_ix ix_list (pv 0) (pv 3) (fun _ _ => rfl))) (pss_cons (ps_set (i := 5) sc_answers.nd rfl (Or.inl rfl) (pe_op op_add (pv 3) pe_int)) (pss_cons (ps_set (i := 3) sc_answers.nd rfl (Or.inl rfl) (pe_op op_add (pv 5) (pe_call (ok_width_of T) (hr.mono (by decide)) (by rfl) T.width_of.mg T.width_of.fn.kp T.width_of.bd .nil pass0 (pa_cons (pv 4) pa_nil)))) (pss_cons (ps_set (i := 6) sc_answers.nd rfl (Or.inl rfl) (pe_call (ok_answer_call T) (hr.mono (by decide)) (by rfl) T.answer_call.mg T.answer_call.fn.kp T.answer_call.bd .nil pass0 (pa_cons (pv 1) (pa_cons (pv 4) (pa_cons (pe_slice sl_list (pv 0) (po_some (pv 5)) (po_some (pv 3))) pa_nil))))) (pss_cons (ps_expr (pe_bm PySem.F.plainAttrs_list PySem.F.slot_list_append PySem.F.type_list_append mt_append (pv 2) (pa_cons (pe_callB call_len_seq (by rfl) T.b_len PySem.boot_len (pa_cons (pv 6) pa_nil)) pa_nil))) (pss_one (ps_expr (pe_bm PySem.F.plainAttrs_list PySem.F.slot_list_extend PySem.F.type_list_extend mt_extend (pv 2) (pa_cons (pv 6) pa_nil)))))))))) (pss_one (ps_ret (pv 2))))))), ?_⟩
    intro x dx nx nd ne
    refine ⟨x, dx, rfl, upd_same, fun H1 b1 h1 => ⟨rfl, ?_⟩⟩
    have s1 : Same H H1 := Same.made nx nd fun b o e hb => b1 b o e hb
    refine ⟨Nat.zero_le _, fun an han => ?_⟩
    have s2 : Same H1 (upd H1 an (.lst [])) := same_new han
    have nax : an ≠ x := (ne_of_none h1 han).symm
    have cx : ∀ o, H c = some o → c ≠ x ∧ c ≠ an := fun o e => ⟨ne_of_none e nx, ne_of_none (s1 _ _ e) han⟩
    refine ⟨fun μ σ H' => ∃ (t : Tg) (st : Vbemar.State) (i f : Nat) (iz : Int) (cs' : List (List (List Int))) (out : List Int) (v4 v5 v6 : Option V), σ = [some (.ref c), some (.ref x), some (.ref an), some (.int iz), v4, v5, v6] ∧ iz = (i : Int) ∧ i ≤ ns.length ∧ μ = ns.length - i ∧
      PyFlat.calls PyVbemar.shape f (ns.drop i) = some cs' ∧ SRep a H' t x st ∧ (∀ o, H c = some o → H' c = some o ∧ t c = none) ∧ H' an = some (.lst (out.map V.int)) ∧ t an = none ∧
      out ++ PyFlat.told (PyFlat.played VbemarNeutral.step st cs') = PyVbemar.answers ns ∧ out.length + 242 * cs'.length ≤ 96800,
      ⟨_, fun _ => none, Vbemar.start, 0, ns.length, 0, cs, [], none, none, none, rfl, rfl, Nat.zero_le _, rfl, hcs, ⟨dx, .non, s2 _ _ h1, rfl, fun _ _ => rfl, rfl⟩, fun o e => ⟨s2 _ _ (s1 _ _ e), rfl⟩, upd_same, rfl, hans.symm, ?_⟩, ?_⟩
    · show 0 + 242 * cs.length ≤ 96800
      omega
    rintro μ σ H2 ⟨t, st, i, f, iz, cs', out, v4, v5, v6, rfl, rfl, hi, rfl, hcs', R, hc', hann, tan, hout, hlen⟩
    have hS2 : SqL K H2 c (ns.map V.int) := sq_keep hS fun o e => (hc' o e).1
    refine ⟨_, rfl, _, rfl, c, _, rfl, .inl hS2, _, _, rfl, rfl, _, rfl, ?_⟩
    by_cases d : i < ns.length
    · refine dT (show (i : Int) < (((ns.map V.int).length : Nat) : Int) by rw [List.length_map]; omega) ?_
      rw [List.drop_eq_getElem_cons d] at hcs'
      obtain ⟨n, f', cs2, hsh, hn, hcs2, rfl⟩ := GM.calls_cons hcs'
      obtain ⟨rs, hrs, hrl⟩ := shape_tab hsh
      subst hrl
      rw [List.drop_drop] at hcs2
      rw [List.length_drop] at hn
      refine ⟨_, fun σ' H' h' => h', ?_⟩
      refine ⟨_, rfl, _, rfl, c, _, _, _, rfl, rfl, hS2, at_of (j := i) (v := .int ns[i]) rfl (by rw [List.getElem?_map, List.getElem?_eq_getElem d]; rfl), ?_⟩
      refine ⟨_, rfl, _, _, rfl, rfl, ?_⟩
      refine ⟨_, rfl, _, rfl, _, rs, rfl, hrs, _, _, rfl, rfl, ?_⟩
      refine ⟨_, rfl, _, rfl, _, rfl, _, rfl, _, rfl, _, rfl, _, rfl, c, _, rfl, hS2, fun p hp => ?_⟩
      have ecut : cutV (ns.map V.int) (some ((i : Int) + 1)) (some ((i : Int) + 1 + (rs.length : Int))) = ((ns.drop (i + 1)).take rs.length).map V.int := by
        rw [cut_at (j := i + 1) (n := rs.length) (by omega) (by omega) (by rw [List.length_map]; omega), List.map_take, List.map_drop]
      rw [ecut]
      obtain ⟨_, _, hs, ts, tl, _⟩ := id R
      obtain ⟨g3, tl3⟩ := grow0 (o := .lst (((ns.drop (i + 1)).take rs.length).map V.int)) tl hp
      have nap : an ≠ p := ne_of_none hann hp
      refine ⟨t, x, st, p, ns[i], rs, (ns.drop (i + 1)).take rs.length, rfl, R.grow g3 tl3, upd_same, tl p hp, hrs, by rw [List.length_take, List.length_drop]; omega, fun H4 t4 q R4 hq tq nq fs => ?_⟩
      have han3 : upd H2 p (.lst (((ns.drop (i + 1)).take rs.length).map V.int)) an = some (.lst (out.map V.int)) := g3.same _ _ hann
      have han4 : H4 an = some (.lst (out.map V.int)) := fs.old an _ han3 nax (.inl tan)
      have tan4 : t4 an = none := (fs.tag an (live_of han3)).trans tan
      have naq : an ≠ q := ne_of_none han3 nq
      have hl1 : (Vbemar.stepNumbers st [ns[i] :: (ns.drop (i + 1)).take rs.length]).2.length ≤ 241 := GM.stepN_len R.wf _
      have hl2 : out.length + 242 * (cs2.length + 1) ≤ 96800 := hlen
      have big : 96800 < sizeLine := by decide
      refine ⟨_, rfl, .inl ⟨rfl, _, SqL.of han4⟩, _, rfl, q, _, rfl, .inl (SqL.of hq), an, _, _, rfl, rfl, han4, by rw [List.length_map]; omega, ?_⟩
      refine ⟨_, rfl, .inl ⟨rfl, _, SqL.of upd_same⟩, _, rfl, an, q, _, _, rfl, rfl, upd_same, by rw [upd_ne naq.symm]; exact hq, by rw [List.length_append, List.length_map, List.length_map]; show out.length + 1 + _ ≤ _; omega, ?_⟩
      refine ⟨_, ?_, t4, (Vbemar.stepNumbers st [ns[i] :: (ns.drop (i + 1)).take rs.length]).1, i + 1 + rs.length, f', _, cs2,
        out ++ (((Vbemar.stepNumbers st [ns[i] :: (ns.drop (i + 1)).take rs.length]).2.length : Int) :: (Vbemar.stepNumbers st [ns[i] :: (ns.drop (i + 1)).take rs.length]).2), _, _, _, rfl, by omega, by omega, rfl, hcs2, (R4.other tan4 nax).other tan4 nax, fun o e => ?_, ?_, tan4, ?_, ?_⟩
      · show ns.length - (i + 1 + rs.length) < ns.length - i
        omega
      · obtain ⟨e1, e2⟩ := hc' o e
        obtain ⟨n1, n2⟩ := cx o e
        have e3 := g3.same _ _ e1
        have e4 := fs.old c _ e3 n1 (.inl e2)
        refine ⟨by rw [upd_ne n2, upd_ne n2]; exact e4, (fs.tag c (live_of e3)).trans e2⟩
      · rw [upd_same, List.map_append, List.map_cons, List.append_assoc, List.length_map]
        rfl
      · rw [← hout, GM.played_cons, List.append_assoc]
        rfl
      · rw [List.length_append, List.length_cons]
        omega
    · refine dF (show ¬ (i : Int) < (((ns.map V.int).length : Nat) : Int) by rw [List.length_map]; omega) ?_
      have ei : i = ns.length := by omega
      subst ei
      rw [List.drop_length] at hcs'
      have e := GM.calls_nil hcs'
      subst e
      refine ⟨_, rfl, ?_⟩
      rw [GM.played_nil, List.append_nil] at hout
      refine k H2 an ?_
      rw [← hout]
      exact hann
end
end G
end
section
set_option Elab.async false
set_option linter.all false
set_option maxRecDepth 100000
set_option maxHeartbeats 1000000
namespace HD
open PySem PySem.W
def fragOf (as : List Addr) (h : Heap) : Frag := as.filterMap fun a => (h.get? a).map fun o => (a, o)
theorem fragOf_in (h : Heap) : ∀ as : List Addr, (fragOf as h).In h
  | [], a, o, e => nomatch e
  | x :: as, a, o, e => by
    unfold fragOf at e
    rw [List.filterMap_cons] at e
    cases hx : h.get? x with
    | none =>
      rw [hx] at e
      exact fragOf_in h as a o e
    | some u =>
      rw [hx] at e
      have e : List.lookup a ((x, u) :: fragOf as h) = some o := e
      rw [List.lookup_cons] at e
      cases c : a == x with
      | true =>
        rw [c] at e
        have e1 : a = x := eq_of_beq c
        rw [e1, hx]
        exact e
      | false =>
        rw [c] at e
        exact fragOf_in h as a o e
def norm (fd : FuncData) : FuncData := { fd with kwdefaults := .none, doc := .none, pyModule := .none, annotations := none, code := .none, closureTuple := .none }
def fnAt (K : Frag) (f : Addr) : Option FuncData := match K.lookup f with
  | some ⟨_, _, .func fd, _⟩ => some (norm fd)
  | _ => none
def codeAt (K : Frag) (f : Addr) (q : Str) : Bool := match K.lookup f with
  | some ⟨_, _, .func fd, _⟩ => codeIn K fd.code q
  | _ => false
def fn0 (x q : Str) (st : Stmt) : FuncData := fnOf x q (L2.defArgs st) (L2.defBody st) (L2.defScope st) .none .none .none .none none .none .none
abbrev T := List (Option (Option Value)) × List Bool × Option FuncData
def gv (i j : Nat) (l : List T) : Option (Option (Option Value)) := l[i]?.bind fun t => t.1[j]?
def gb (i j : Nat) (l : List T) : Option Bool := l[i]?.bind fun t => t.2.1[j]?
def gf (i : Nat) (l : List T) : Option FuncData := l[i]?.bind fun t => t.2.2
abbrev pos0 : Pos := ⟨0, 0, 0, 0⟩
def defPos (s : Stmt) : Pos := match s with
  | .FunctionDef _ _ _ _ _ _ _ _ _ p => p
  | _ => pos0
def o5 (_ : Params) : Obj := { cls := .type "tuple", data := .seq #[] }
def o6 (_ : Params) : Obj := { cls := .none, data := .fields #[] }
def o7 (_ : Params) : Obj := { cls := .type "code", data := .fields #[.str "<module>" 182, .str "<module>" 183, .str "/claim/cut.py" 184, .int 1 0, .int 0 0, .int 0 0, .int 0 0, .int 0 0, .ref 11, .bool false, .int 181 0, .ref 12, .none, .none, .none, .none, .int 185 0, .int 1 0, .str "/claim/cut.py" 186] }
def o8 (_ : Params) : Obj := { cls := .type "frame", slots := #[some (.ref 13), some (.ref 3), some (.ref 3), none, some (.str "__main__" 164), none, some (.ref 0)] }
noncomputable def Ha (P : Params) : Heap := { objs := { toList := [boot_o_0 P, boot_o_1 P, boot_o_2 P, boot_o_3 P, boot_o_4 P, boot_o_5 P, boot_o_6 P, boot_o_7 P, boot_o_8 P, boot_o_9 P, boot_o_10 P, o5 P, o6 P, o7 P, o8 P] } }
noncomputable def Tb (P : Params) : BT := .node (boot_o_0 P) (.node (boot_o_1 P) (.node (boot_o_3 P) (.node (boot_o_7 P) .nil .nil) (.node (o5 P) .nil .nil)) (.node (boot_o_5 P) (.node (boot_o_9 P) .nil .nil) (.node (o7 P) .nil .nil)))
  (.node (boot_o_2 P) (.node (boot_o_4 P) (.node (boot_o_8 P) .nil .nil) (.node (o6 P) .nil .nil)) (.node (boot_o_6 P) (.node (boot_o_10 P) .nil .nil) (.node (o8 P) .nil .nil)))
def envP (p : Program) : Env := { scope := p.main.scope, locals := mainNs, globals := mainNs, cells := [], code := .ref 13, frame := some 14 }
theorem left_two {p q : Program} {loose : List Str} {Xt : Shared → Bool} {α : Type} {Yf : Shared → α} {Ya : World → α} {N M Mf kf : Nat} {Hf : Params → Heap}
    (open_ : ∀ w : World, (fencedOpening treeTable p w N).map (fun s => (s.heap, s.gens, s.drawn, s.toks)) = some (boot_heap w.params, Array.mk [], boot_drawn, boot_toks))
    (size : ∀ w : World, ((boot_heap w.params).isNs mainGlobals && (Array.mk [] : Array GenState).size == 0, (boot_heap w.params).objs.size, (boot_heap w.params).nsMap mainGlobals "__annotations__") = (true, 11, some (.ref 6)))
    (pre : ∀ (w : World) (os : OsState), topGo treeTable p w 11 (some (.ref 6)) 12 ⟨boot_heap w.params, Array.mk [], boot_drawn, boot_toks, os⟩ (topStub p) =
      some (⟨Ha w.params, Array.mk [], {}, 187, os⟩, ⟨denote treeTable (Code.body (behindTheImports p) (envP p)), Code.body (behindTheImports p) (envP p), pos0, [topFrame pos0]⟩))
    (block : ∀ (w : World) (os : OsState), segRun treeTable p w 11 (some (.ref 6)) 1 1 ⟨Ha w.params, Array.mk [], {}, 187, os⟩ (blockOf (behindTheImports p) (envP p) (Code.body (behindTheImports p) (envP p)) pos0 [topFrame pos0]) =
      some (.next, (SharedT.mk (Tb w.params) 15 {} (Array.mk []) {} 187 os).abs, Code.body (behindTheImports p) (envP p), pos0))
    (main : ∀ (w : World), (fun os => (segRunT treeTable p w 11 (some (.ref 6)) 1 M (SharedT.mk (Tb w.params) 15 {} (Array.mk []) {} 187 os) (piecesOf (behindTheImports p) (envP p) (Code.body (behindTheImports p) (envP p)) pos0 [topFrame pos0])).bind fun r =>
        (topRun treeTable p w 11 (some (.ref 6)) Mf r.2.1.abs ⟨doneF .next, Code.body (behindTheImports p) (envP p), r.2.2.2, [topFrame pos0]⟩).map fun s => (r.1, r.2.2.1, s)) =
      fun os => some (Flow.next, Code.body (behindTheImports p) (envP p), ⟨Hf w.params, Array.mk [], {}, kf, os⟩))
    (le : Nat.ble (12 + (1 + (M + Mf))) N = true)
    (looks : ∀ w : World, (fun os => ((staticsOk (importedModules p.main.body) (boot_heap w.params) (Hf w.params) && namesBound p (Hf w.params) && gensDone ⟨Hf w.params, Array.mk [], {}, kf, os⟩ && laidKept (boot_heap w.params) (Hf w.params)),
        openSeen q loose (importedModules p.main.body) Xt true ⟨Hf w.params, Array.mk [], {}, kf, os⟩, Yf ⟨Hf w.params, Array.mk [], {}, kf, os⟩)) = fun _ => (true, openGood q loose, Ya w)) : LeftO p q loose Xt Yf Ya N :=
  LeftO.of_pieces open_ size (fun w os => by
    obtain ⟨⟨f, st, c, pos⟩, m1, m2⟩ := Option.bind_eq_some_iff.mp (congrFun (main w) os)
    obtain ⟨s1, m3, m4⟩ := Option.map_eq_some_iff.mp m2
    obtain ⟨rfl, rfl, rfl⟩ : f = Flow.next ∧ c = Code.body (behindTheImports p) (envP p) ∧ s1 = _ := by simpa only [Prod.mk.injEq] using m4
    have r2 := piece_app (rest := []) (segRun_of m1) m3
    rw [List.append_nil] at r2
    exact go_top (pre w os) (piece_block (block w os) r2)) le looks
end HD
end
section
set_option Elab.async false
set_option linter.all false
set_option maxRecDepth 100000
set_option maxHeartbeats 4000000
namespace PySem.W.Fast
lay_quick PySem.Challenge.pw_gatehouse_s01_answers
end PySem.W.Fast
namespace G
open PySem PySem.Spec PyProof.Rows L2
open PySem.W (Codec Frag nsIn findIn plainGet hasDictIn plainOver makesIn keepIn isFn)
def FnE (K : Frag) (x qual : Str) (st : Stmt) (f : Addr) : Prop := ∃ (oc : Value) (od : Option Addr) (kV dc pm : Value) (an : Option Addr) (cd ct : Value) (sl : Array (Option Value)),
  K.lookup f = some ⟨oc, od, .func (PySem.W.fnOf x qual (defArgs st) (defBody st) (defScope st) .none kV dc pm an cd ct), sl⟩ ∧ PySem.W.codeIn K cd qual = true ∧ keepIn K (.ref f) = true
theorem FnE.ofAt {K : Frag} {x q : Str} {st : Stmt} {f : Addr} (h : HD.fnAt K f = some (HD.fn0 x q st)) (c : HD.codeAt K f q = true) (k : keepIn K (.ref f) = true) : FnE K x q st f := by
  unfold HD.fnAt at h
  unfold HD.codeAt at c
  split at h
  · rename_i oc od fd sl e
    rw [e] at c
    have h := Option.some.inj h
    cases fd
    simp only [HD.norm, HD.fn0, FuncData.mk.injEq] at h
    obtain ⟨rfl, rfl, rfl, rfl, rfl, rfl, rfl, rfl, _, _, _, _, _, _, rfl⟩ := h
    exact ⟨oc, od, _, _, _, _, _, _, sl, e, c, k⟩
  · cases h
theorem FnE.fn {K : Frag} {x qual : Str} {st : Stmt} {f : Addr} {ps : List Str} (e : FnE K x qual st f)
    (h : ∀ (kV doc pm : Value) (an : Option Addr) (cdv ct : Value) (us : List Value), us.length = ps.length → bindArgs (PySem.W.fnOf x qual (defArgs st) (defBody st) (defScope st) .none kV doc pm an cdv ct) ⟨us, []⟩ = pure (ps.zip us)) :
    ∃ fd, Fun K x qual st f fd ∧ Binds K fd ps [] ∧ ∀ (s : Shared) (us : List Value), us.length = ps.length → BindsTo s fd ⟨us, []⟩ (ps.zip us) := by
  obtain ⟨oc, od, kV, dc, pm, an, cd, ct, sl, l, c, k⟩ := e
  have F := fun_mk (st := st) l c k
  exact ⟨_, F, F.binds h, fun s us hl => .of_eq (h _ _ _ _ _ _ us hl)⟩
theorem bd_write_amount {kV doc pm : Value} {an : Option Addr} {cdv ct : Value} : ∀ us : List Value, us.length = (["sheet", "other", "quarter", "amount"] : List Str).length → bindArgs (PySem.W.fnOf "write_amount" "write_amount" (defArgs s_write_amount) (defBody s_write_amount) (defScope s_write_amount) .none kV doc pm an cdv ct) ⟨us, []⟩ = pure ((["sheet", "other", "quarter", "amount"] : List Str).zip us) := fun us hl => match us, hl with | [_, _, _, _], _ => rfl
theorem bd_read_amount {kV doc pm : Value} {an : Option Addr} {cdv ct : Value} : ∀ us : List Value, us.length = (["sheet", "other", "quarter"] : List Str).length → bindArgs (PySem.W.fnOf "read_amount" "read_amount" (defArgs s_read_amount) (defBody s_read_amount) (defScope s_read_amount) .none kV doc pm an cdv ct) ⟨us, []⟩ = pure ((["sheet", "other", "quarter"] : List Str).zip us) := fun us hl => match us, hl with | [_, _, _], _ => rfl
theorem bd_count_rows {kV doc pm : Value} {an : Option Addr} {cdv ct : Value} : ∀ us : List Value, us.length = (["sheet"] : List Str).length → bindArgs (PySem.W.fnOf "count_rows" "count_rows" (defArgs s_count_rows) (defBody s_count_rows) (defScope s_count_rows) .none kV doc pm an cdv ct) ⟨us, []⟩ = pure ((["sheet"] : List Str).zip us) := fun us hl => match us, hl with | [_], _ => rfl
theorem bd_list_rows {kV doc pm : Value} {an : Option Addr} {cdv ct : Value} : ∀ us : List Value, us.length = (["sheet"] : List Str).length → bindArgs (PySem.W.fnOf "list_rows" "list_rows" (defArgs s_list_rows) (defBody s_list_rows) (defScope s_list_rows) .none kV doc pm an cdv ct) ⟨us, []⟩ = pure ((["sheet"] : List Str).zip us) := fun us hl => match us, hl with | [_], _ => rfl
theorem bd_match_amounts {kV doc pm : Value} {an : Option Addr} {cdv ct : Value} : ∀ us : List Value, us.length = (["own", "theirs"] : List Str).length → bindArgs (PySem.W.fnOf "match_amounts" "match_amounts" (defArgs s_match_amounts) (defBody s_match_amounts) (defScope s_match_amounts) .none kV doc pm an cdv ct) ⟨us, []⟩ = pure ((["own", "theirs"] : List Str).zip us) := fun us hl => match us, hl with | [_, _], _ => rfl
theorem bd_Message_init {kV doc pm : Value} {an : Option Addr} {cdv ct : Value} : ∀ us : List Value, us.length = (["self", "kind", "party", "version", "sheet"] : List Str).length → bindArgs (PySem.W.fnOf "__init__" "Message.__init__" (defArgs s_Message_init) (defBody s_Message_init) (defScope s_Message_init) .none kV doc pm an cdv ct) ⟨us, []⟩ = pure ((["self", "kind", "party", "version", "sheet"] : List Str).zip us) := fun us hl => match us, hl with | [_, _, _, _, _], _ => rfl
theorem bd_Net_init {kV doc pm : Value} {an : Option Addr} {cdv ct : Value} : ∀ us : List Value, us.length = (["self"] : List Str).length → bindArgs (PySem.W.fnOf "__init__" "Net.__init__" (defArgs s_Net_init) (defBody s_Net_init) (defScope s_Net_init) .none kV doc pm an cdv ct) ⟨us, []⟩ = pure ((["self"] : List Str).zip us) := fun us hl => match us, hl with | [_], _ => rfl
theorem bd_Net_under_way {kV doc pm : Value} {an : Option Addr} {cdv ct : Value} : ∀ us : List Value, us.length = (["self"] : List Str).length → bindArgs (PySem.W.fnOf "under_way" "Net.under_way" (defArgs s_Net_under_way) (defBody s_Net_under_way) (defScope s_Net_under_way) .none kV doc pm an cdv ct) ⟨us, []⟩ = pure ((["self"] : List Str).zip us) := fun us hl => match us, hl with | [_], _ => rfl
theorem bd_Net_full {kV doc pm : Value} {an : Option Addr} {cdv ct : Value} : ∀ us : List Value, us.length = (["self"] : List Str).length → bindArgs (PySem.W.fnOf "full" "Net.full" (defArgs s_Net_full) (defBody s_Net_full) (defScope s_Net_full) .none kV doc pm an cdv ct) ⟨us, []⟩ = pure ((["self"] : List Str).zip us) := fun us hl => match us, hl with | [_], _ => rfl
theorem bd_Net_post {kV doc pm : Value} {an : Option Addr} {cdv ct : Value} : ∀ us : List Value, us.length = (["self", "message"] : List Str).length → bindArgs (PySem.W.fnOf "post" "Net.post" (defArgs s_Net_post) (defBody s_Net_post) (defScope s_Net_post) .none kV doc pm an cdv ct) ⟨us, []⟩ = pure ((["self", "message"] : List Str).zip us) := fun us hl => match us, hl with | [_, _], _ => rfl
theorem bd_Net_take {kV doc pm : Value} {an : Option Addr} {cdv ct : Value} : ∀ us : List Value, us.length = (["self", "place"] : List Str).length → bindArgs (PySem.W.fnOf "take" "Net.take" (defArgs s_Net_take) (defBody s_Net_take) (defScope s_Net_take) .none kV doc pm an cdv ct) ⟨us, []⟩ = pure ((["self", "place"] : List Str).zip us) := fun us hl => match us, hl with | [_, _], _ => rfl
theorem bd_Net_double {kV doc pm : Value} {an : Option Addr} {cdv ct : Value} : ∀ us : List Value, us.length = (["self", "place"] : List Str).length → bindArgs (PySem.W.fnOf "double" "Net.double" (defArgs s_Net_double) (defBody s_Net_double) (defScope s_Net_double) .none kV doc pm an cdv ct) ⟨us, []⟩ = pure ((["self", "place"] : List Str).zip us) := fun us hl => match us, hl with | [_, _], _ => rfl
theorem bd_describe {kV doc pm : Value} {an : Option Addr} {cdv ct : Value} : ∀ us : List Value, us.length = (["message"] : List Str).length → bindArgs (PySem.W.fnOf "describe" "describe" (defArgs s_describe) (defBody s_describe) (defScope s_describe) .none kV doc pm an cdv ct) ⟨us, []⟩ = pure ((["message"] : List Str).zip us) := fun us hl => match us, hl with | [_], _ => rfl
theorem bd_describe_all {kV doc pm : Value} {an : Option Addr} {cdv ct : Value} : ∀ us : List Value, us.length = (["net"] : List Str).length → bindArgs (PySem.W.fnOf "describe_all" "describe_all" (defArgs s_describe_all) (defBody s_describe_all) (defScope s_describe_all) .none kV doc pm an cdv ct) ⟨us, []⟩ = pure ((["net"] : List Str).zip us) := fun us hl => match us, hl with | [_], _ => rfl
theorem bd_Party_init {kV doc pm : Value} {an : Option Addr} {cdv ct : Value} : ∀ us : List Value, us.length = (["self"] : List Str).length → bindArgs (PySem.W.fnOf "__init__" "Party.__init__" (defArgs s_Party_init) (defBody s_Party_init) (defScope s_Party_init) .none kV doc pm an cdv ct) ⟨us, []⟩ = pure ((["self"] : List Str).zip us) := fun us hl => match us, hl with | [_], _ => rfl
theorem bd_Account_init {kV doc pm : Value} {an : Option Addr} {cdv ct : Value} : ∀ us : List Value, us.length = (["self"] : List Str).length → bindArgs (PySem.W.fnOf "__init__" "Account.__init__" (defArgs s_Account_init) (defBody s_Account_init) (defScope s_Account_init) .none kV doc pm an cdv ct) ⟨us, []⟩ = pure ((["self"] : List Str).zip us) := fun us hl => match us, hl with | [_], _ => rfl
theorem bd_Market_init {kV doc pm : Value} {an : Option Addr} {cdv ct : Value} : ∀ us : List Value, us.length = (["self", "party_count", "quarter_count", "gate"] : List Str).length → bindArgs (PySem.W.fnOf "__init__" "Market.__init__" (defArgs s_Market_init) (defBody s_Market_init) (defScope s_Market_init) .none kV doc pm an cdv ct) ⟨us, []⟩ = pure ((["self", "party_count", "quarter_count", "gate"] : List Str).zip us) := fun us hl => match us, hl with | [_, _, _, _], _ => rfl
theorem bd_Market_party_of {kV doc pm : Value} {an : Option Addr} {cdv ct : Value} : ∀ us : List Value, us.length = (["self", "number"] : List Str).length → bindArgs (PySem.W.fnOf "party_of" "Market.party_of" (defArgs s_Market_party_of) (defBody s_Market_party_of) (defScope s_Market_party_of) .none kV doc pm an cdv ct) ⟨us, []⟩ = pure ((["self", "number"] : List Str).zip us) := fun us hl => match us, hl with | [_, _], _ => rfl
theorem bd_Market_account_of {kV doc pm : Value} {an : Option Addr} {cdv ct : Value} : ∀ us : List Value, us.length = (["self", "number"] : List Str).length → bindArgs (PySem.W.fnOf "account_of" "Market.account_of" (defArgs s_Market_account_of) (defBody s_Market_account_of) (defScope s_Market_account_of) .none kV doc pm an cdv ct) ⟨us, []⟩ = pure ((["self", "number"] : List Str).zip us) := fun us hl => match us, hl with | [_, _], _ => rfl
theorem bd_held_amount {kV doc pm : Value} {an : Option Addr} {cdv ct : Value} : ∀ us : List Value, us.length = (["market", "number", "other", "quarter"] : List Str).length → bindArgs (PySem.W.fnOf "held_amount" "held_amount" (defArgs s_held_amount) (defBody s_held_amount) (defScope s_held_amount) .none kV doc pm an cdv ct) ⟨us, []⟩ = pure ((["market", "number", "other", "quarter"] : List Str).zip us) := fun us hl => match us, hl with | [_, _, _, _], _ => rfl
theorem bd_matched_sheet {kV doc pm : Value} {an : Option Addr} {cdv ct : Value} : ∀ us : List Value, us.length = (["market", "number"] : List Str).length → bindArgs (PySem.W.fnOf "matched_sheet" "matched_sheet" (defArgs s_matched_sheet) (defBody s_matched_sheet) (defScope s_matched_sheet) .none kV doc pm an cdv ct) ⟨us, []⟩ = pure ((["market", "number"] : List Str).zip us) := fun us hl => match us, hl with | [_, _], _ => rfl
theorem bd_matched_sum {kV doc pm : Value} {an : Option Addr} {cdv ct : Value} : ∀ us : List Value, us.length = (["market", "number", "quarter"] : List Str).length → bindArgs (PySem.W.fnOf "matched_sum" "matched_sum" (defArgs s_matched_sum) (defBody s_matched_sum) (defScope s_matched_sum) .none kV doc pm an cdv ct) ⟨us, []⟩ = pure ((["market", "number", "quarter"] : List Str).zip us) := fun us hl => match us, hl with | [_, _, _], _ => rfl
theorem bd_list_unmatched {kV doc pm : Value} {an : Option Addr} {cdv ct : Value} : ∀ us : List Value, us.length = (["market"] : List Str).length → bindArgs (PySem.W.fnOf "list_unmatched" "list_unmatched" (defArgs s_list_unmatched) (defBody s_list_unmatched) (defScope s_list_unmatched) .none kV doc pm an cdv ct) ⟨us, []⟩ = pure ((["market"] : List Str).zip us) := fun us hl => match us, hl with | [_], _ => rfl
theorem bd_post_sent_sheet {kV doc pm : Value} {an : Option Addr} {cdv ct : Value} : ∀ us : List Value, us.length = (["market", "number"] : List Str).length → bindArgs (PySem.W.fnOf "post_sent_sheet" "post_sent_sheet" (defArgs s_post_sent_sheet) (defBody s_post_sent_sheet) (defScope s_post_sent_sheet) .none kV doc pm an cdv ct) ⟨us, []⟩ = pure ((["market", "number"] : List Str).zip us) := fun us hl => match us, hl with | [_, _], _ => rfl
theorem bd_send {kV doc pm : Value} {an : Option Addr} {cdv ct : Value} : ∀ us : List Value, us.length = (["market", "number"] : List Str).length → bindArgs (PySem.W.fnOf "send" "send" (defArgs s_send) (defBody s_send) (defScope s_send) .none kV doc pm an cdv ct) ⟨us, []⟩ = pure ((["market", "number"] : List Str).zip us) := fun us hl => match us, hl with | [_, _], _ => rfl
theorem bd_arrive {kV doc pm : Value} {an : Option Addr} {cdv ct : Value} : ∀ us : List Value, us.length = (["market", "message"] : List Str).length → bindArgs (PySem.W.fnOf "arrive" "arrive" (defArgs s_arrive) (defBody s_arrive) (defScope s_arrive) .none kV doc pm an cdv ct) ⟨us, []⟩ = pure ((["market", "message"] : List Str).zip us) := fun us hl => match us, hl with | [_, _], _ => rfl
theorem bd_receive_sheet {kV doc pm : Value} {an : Option Addr} {cdv ct : Value} : ∀ us : List Value, us.length = (["market", "message"] : List Str).length → bindArgs (PySem.W.fnOf "receive_sheet" "receive_sheet" (defArgs s_receive_sheet) (defBody s_receive_sheet) (defScope s_receive_sheet) .none kV doc pm an cdv ct) ⟨us, []⟩ = pure ((["market", "message"] : List Str).zip us) := fun us hl => match us, hl with | [_, _], _ => rfl
theorem bd_receive_have {kV doc pm : Value} {an : Option Addr} {cdv ct : Value} : ∀ us : List Value, us.length = (["market", "message"] : List Str).length → bindArgs (PySem.W.fnOf "receive_have" "receive_have" (defArgs s_receive_have) (defBody s_receive_have) (defScope s_receive_have) .none kV doc pm an cdv ct) ⟨us, []⟩ = pure ((["market", "message"] : List Str).zip us) := fun us hl => match us, hl with | [_, _], _ => rfl
theorem bd_receive_late {kV doc pm : Value} {an : Option Addr} {cdv ct : Value} : ∀ us : List Value, us.length = (["market", "message"] : List Str).length → bindArgs (PySem.W.fnOf "receive_late" "receive_late" (defArgs s_receive_late) (defBody s_receive_late) (defScope s_receive_late) .none kV doc pm an cdv ct) ⟨us, []⟩ = pure ((["market", "message"] : List Str).zip us) := fun us hl => match us, hl with | [_, _], _ => rfl
theorem bd_receive_matched {kV doc pm : Value} {an : Option Addr} {cdv ct : Value} : ∀ us : List Value, us.length = (["market", "message"] : List Str).length → bindArgs (PySem.W.fnOf "receive_matched" "receive_matched" (defArgs s_receive_matched) (defBody s_receive_matched) (defScope s_receive_matched) .none kV doc pm an cdv ct) ⟨us, []⟩ = pure ((["market", "message"] : List Str).zip us) := fun us hl => match us, hl with | [_, _], _ => rfl
theorem bd_receive_seen {kV doc pm : Value} {an : Option Addr} {cdv ct : Value} : ∀ us : List Value, us.length = (["market", "message"] : List Str).length → bindArgs (PySem.W.fnOf "receive_seen" "receive_seen" (defArgs s_receive_seen) (defBody s_receive_seen) (defScope s_receive_seen) .none kV doc pm an cdv ct) ⟨us, []⟩ = pure ((["market", "message"] : List Str).zip us) := fun us hl => match us, hl with | [_, _], _ => rfl
theorem bd_tick {kV doc pm : Value} {an : Option Addr} {cdv ct : Value} : ∀ us : List Value, us.length = (["market"] : List Str).length → bindArgs (PySem.W.fnOf "tick" "tick" (defArgs s_tick) (defBody s_tick) (defScope s_tick) .none kV doc pm an cdv ct) ⟨us, []⟩ = pure ((["market"] : List Str).zip us) := fun us hl => match us, hl with | [_], _ => rfl
theorem bd_post_again {kV doc pm : Value} {an : Option Addr} {cdv ct : Value} : ∀ us : List Value, us.length = (["market"] : List Str).length → bindArgs (PySem.W.fnOf "post_again" "post_again" (defArgs s_post_again) (defBody s_post_again) (defScope s_post_again) .none kV doc pm an cdv ct) ⟨us, []⟩ = pure ((["market"] : List Str).zip us) := fun us hl => match us, hl with | [_], _ => rfl
theorem bd_post_confirmations {kV doc pm : Value} {an : Option Addr} {cdv ct : Value} : ∀ us : List Value, us.length = (["market"] : List Str).length → bindArgs (PySem.W.fnOf "post_confirmations" "post_confirmations" (defArgs s_post_confirmations) (defBody s_post_confirmations) (defScope s_post_confirmations) .none kV doc pm an cdv ct) ⟨us, []⟩ = pure ((["market"] : List Str).zip us) := fun us hl => match us, hl with | [_], _ => rfl
theorem bd_calm {kV doc pm : Value} {an : Option Addr} {cdv ct : Value} : ∀ us : List Value, us.length = (["market", "rounds"] : List Str).length → bindArgs (PySem.W.fnOf "calm" "calm" (defArgs s_calm) (defBody s_calm) (defScope s_calm) .none kV doc pm an cdv ct) ⟨us, []⟩ = pure ((["market", "rounds"] : List Str).zip us) := fun us hl => match us, hl with | [_, _], _ => rfl
theorem bd_Session_init {kV doc pm : Value} {an : Option Addr} {cdv ct : Value} : ∀ us : List Value, us.length = (["self"] : List Str).length → bindArgs (PySem.W.fnOf "__init__" "Session.__init__" (defArgs s_Session_init) (defBody s_Session_init) (defScope s_Session_init) .none kV doc pm an cdv ct) ⟨us, []⟩ = pure ((["self"] : List Str).zip us) := fun us hl => match us, hl with | [_], _ => rfl
theorem bd_write_call {kV doc pm : Value} {an : Option Addr} {cdv ct : Value} : ∀ us : List Value, us.length = (["market", "numbers"] : List Str).length → bindArgs (PySem.W.fnOf "write_call" "write_call" (defArgs s_write_call) (defBody s_write_call) (defScope s_write_call) .none kV doc pm an cdv ct) ⟨us, []⟩ = pure ((["market", "numbers"] : List Str).zip us) := fun us hl => match us, hl with | [_, _], _ => rfl
theorem bd_clear_call {kV doc pm : Value} {an : Option Addr} {cdv ct : Value} : ∀ us : List Value, us.length = (["market", "numbers"] : List Str).length → bindArgs (PySem.W.fnOf "clear_call" "clear_call" (defArgs s_clear_call) (defBody s_clear_call) (defScope s_clear_call) .none kV doc pm an cdv ct) ⟨us, []⟩ = pure ((["market", "numbers"] : List Str).zip us) := fun us hl => match us, hl with | [_, _], _ => rfl
theorem bd_send_call {kV doc pm : Value} {an : Option Addr} {cdv ct : Value} : ∀ us : List Value, us.length = (["market", "numbers"] : List Str).length → bindArgs (PySem.W.fnOf "send_call" "send_call" (defArgs s_send_call) (defBody s_send_call) (defScope s_send_call) .none kV doc pm an cdv ct) ⟨us, []⟩ = pure ((["market", "numbers"] : List Str).zip us) := fun us hl => match us, hl with | [_, _], _ => rfl
theorem bd_as_number {kV doc pm : Value} {an : Option Addr} {cdv ct : Value} : ∀ us : List Value, us.length = (["truth"] : List Str).length → bindArgs (PySem.W.fnOf "as_number" "as_number" (defArgs s_as_number) (defBody s_as_number) (defScope s_as_number) .none kV doc pm an cdv ct) ⟨us, []⟩ = pure ((["truth"] : List Str).zip us) := fun us hl => match us, hl with | [_], _ => rfl
theorem bd_tell_tick {kV doc pm : Value} {an : Option Addr} {cdv ct : Value} : ∀ us : List Value, us.length = (["market"] : List Str).length → bindArgs (PySem.W.fnOf "tell_tick" "tell_tick" (defArgs s_tell_tick) (defBody s_tell_tick) (defScope s_tell_tick) .none kV doc pm an cdv ct) ⟨us, []⟩ = pure ((["market"] : List Str).zip us) := fun us hl => match us, hl with | [_], _ => rfl
theorem bd_tick_call {kV doc pm : Value} {an : Option Addr} {cdv ct : Value} : ∀ us : List Value, us.length = (["market", "numbers"] : List Str).length → bindArgs (PySem.W.fnOf "tick_call" "tick_call" (defArgs s_tick_call) (defBody s_tick_call) (defScope s_tick_call) .none kV doc pm an cdv ct) ⟨us, []⟩ = pure ((["market", "numbers"] : List Str).zip us) := fun us hl => match us, hl with | [_, _], _ => rfl
theorem bd_deliver_call {kV doc pm : Value} {an : Option Addr} {cdv ct : Value} : ∀ us : List Value, us.length = (["market", "numbers"] : List Str).length → bindArgs (PySem.W.fnOf "deliver_call" "deliver_call" (defArgs s_deliver_call) (defBody s_deliver_call) (defScope s_deliver_call) .none kV doc pm an cdv ct) ⟨us, []⟩ = pure ((["market", "numbers"] : List Str).zip us) := fun us hl => match us, hl with | [_, _], _ => rfl
theorem bd_lose_call {kV doc pm : Value} {an : Option Addr} {cdv ct : Value} : ∀ us : List Value, us.length = (["market", "numbers"] : List Str).length → bindArgs (PySem.W.fnOf "lose_call" "lose_call" (defArgs s_lose_call) (defBody s_lose_call) (defScope s_lose_call) .none kV doc pm an cdv ct) ⟨us, []⟩ = pure ((["market", "numbers"] : List Str).zip us) := fun us hl => match us, hl with | [_, _], _ => rfl
theorem bd_double_call {kV doc pm : Value} {an : Option Addr} {cdv ct : Value} : ∀ us : List Value, us.length = (["market", "numbers"] : List Str).length → bindArgs (PySem.W.fnOf "double_call" "double_call" (defArgs s_double_call) (defBody s_double_call) (defScope s_double_call) .none kV doc pm an cdv ct) ⟨us, []⟩ = pure ((["market", "numbers"] : List Str).zip us) := fun us hl => match us, hl with | [_, _], _ => rfl
theorem bd_calm_call {kV doc pm : Value} {an : Option Addr} {cdv ct : Value} : ∀ us : List Value, us.length = (["market", "numbers"] : List Str).length → bindArgs (PySem.W.fnOf "calm_call" "calm_call" (defArgs s_calm_call) (defBody s_calm_call) (defScope s_calm_call) .none kV doc pm an cdv ct) ⟨us, []⟩ = pure ((["market", "numbers"] : List Str).zip us) := fun us hl => match us, hl with | [_, _], _ => rfl
theorem bd_party_call {kV doc pm : Value} {an : Option Addr} {cdv ct : Value} : ∀ us : List Value, us.length = (["market", "numbers"] : List Str).length → bindArgs (PySem.W.fnOf "party_call" "party_call" (defArgs s_party_call) (defBody s_party_call) (defScope s_party_call) .none kV doc pm an cdv ct) ⟨us, []⟩ = pure ((["market", "numbers"] : List Str).zip us) := fun us hl => match us, hl with | [_, _], _ => rfl
theorem bd_house_call {kV doc pm : Value} {an : Option Addr} {cdv ct : Value} : ∀ us : List Value, us.length = (["market", "numbers"] : List Str).length → bindArgs (PySem.W.fnOf "house_call" "house_call" (defArgs s_house_call) (defBody s_house_call) (defScope s_house_call) .none kV doc pm an cdv ct) ⟨us, []⟩ = pure ((["market", "numbers"] : List Str).zip us) := fun us hl => match us, hl with | [_, _], _ => rfl
theorem bd_draft_call {kV doc pm : Value} {an : Option Addr} {cdv ct : Value} : ∀ us : List Value, us.length = (["market", "numbers"] : List Str).length → bindArgs (PySem.W.fnOf "draft_call" "draft_call" (defArgs s_draft_call) (defBody s_draft_call) (defScope s_draft_call) .none kV doc pm an cdv ct) ⟨us, []⟩ = pure ((["market", "numbers"] : List Str).zip us) := fun us hl => match us, hl with | [_, _], _ => rfl
theorem bd_held_call {kV doc pm : Value} {an : Option Addr} {cdv ct : Value} : ∀ us : List Value, us.length = (["market", "numbers"] : List Str).length → bindArgs (PySem.W.fnOf "held_call" "held_call" (defArgs s_held_call) (defBody s_held_call) (defScope s_held_call) .none kV doc pm an cdv ct) ⟨us, []⟩ = pure ((["market", "numbers"] : List Str).zip us) := fun us hl => match us, hl with | [_, _], _ => rfl
theorem bd_final_call {kV doc pm : Value} {an : Option Addr} {cdv ct : Value} : ∀ us : List Value, us.length = (["market", "numbers"] : List Str).length → bindArgs (PySem.W.fnOf "final_call" "final_call" (defArgs s_final_call) (defBody s_final_call) (defScope s_final_call) .none kV doc pm an cdv ct) ⟨us, []⟩ = pure ((["market", "numbers"] : List Str).zip us) := fun us hl => match us, hl with | [_, _], _ => rfl
theorem bd_belief_call {kV doc pm : Value} {an : Option Addr} {cdv ct : Value} : ∀ us : List Value, us.length = (["market", "numbers"] : List Str).length → bindArgs (PySem.W.fnOf "belief_call" "belief_call" (defArgs s_belief_call) (defBody s_belief_call) (defScope s_belief_call) .none kV doc pm an cdv ct) ⟨us, []⟩ = pure ((["market", "numbers"] : List Str).zip us) := fun us hl => match us, hl with | [_, _], _ => rfl
theorem bd_flying_call {kV doc pm : Value} {an : Option Addr} {cdv ct : Value} : ∀ us : List Value, us.length = (["market", "numbers"] : List Str).length → bindArgs (PySem.W.fnOf "flying_call" "flying_call" (defArgs s_flying_call) (defBody s_flying_call) (defScope s_flying_call) .none kV doc pm an cdv ct) ⟨us, []⟩ = pure ((["market", "numbers"] : List Str).zip us) := fun us hl => match us, hl with | [_, _], _ => rfl
theorem bd_unmatched_call {kV doc pm : Value} {an : Option Addr} {cdv ct : Value} : ∀ us : List Value, us.length = (["market", "numbers"] : List Str).length → bindArgs (PySem.W.fnOf "unmatched_call" "unmatched_call" (defArgs s_unmatched_call) (defBody s_unmatched_call) (defScope s_unmatched_call) .none kV doc pm an cdv ct) ⟨us, []⟩ = pure ((["market", "numbers"] : List Str).zip us) := fun us hl => match us, hl with | [_, _], _ => rfl
theorem bd_now_call {kV doc pm : Value} {an : Option Addr} {cdv ct : Value} : ∀ us : List Value, us.length = (["market", "numbers"] : List Str).length → bindArgs (PySem.W.fnOf "now_call" "now_call" (defArgs s_now_call) (defBody s_now_call) (defScope s_now_call) .none kV doc pm an cdv ct) ⟨us, []⟩ = pure ((["market", "numbers"] : List Str).zip us) := fun us hl => match us, hl with | [_, _], _ => rfl
theorem bd_total_call {kV doc pm : Value} {an : Option Addr} {cdv ct : Value} : ∀ us : List Value, us.length = (["market", "numbers"] : List Str).length → bindArgs (PySem.W.fnOf "total_call" "total_call" (defArgs s_total_call) (defBody s_total_call) (defScope s_total_call) .none kV doc pm an cdv ct) ⟨us, []⟩ = pure ((["market", "numbers"] : List Str).zip us) := fun us hl => match us, hl with | [_, _], _ => rfl
theorem bd_width_of {kV doc pm : Value} {an : Option Addr} {cdv ct : Value} : ∀ us : List Value, us.length = (["call"] : List Str).length → bindArgs (PySem.W.fnOf "width_of" "width_of" (defArgs s_width_of) (defBody s_width_of) (defScope s_width_of) .none kV doc pm an cdv ct) ⟨us, []⟩ = pure ((["call"] : List Str).zip us) := fun us hl => match us, hl with | [_], _ => rfl
theorem bd_in_ranges {kV doc pm : Value} {an : Option Addr} {cdv ct : Value} : ∀ us : List Value, us.length = (["call", "numbers"] : List Str).length → bindArgs (PySem.W.fnOf "in_ranges" "in_ranges" (defArgs s_in_ranges) (defBody s_in_ranges) (defScope s_in_ranges) .none kV doc pm an cdv ct) ⟨us, []⟩ = pure ((["call", "numbers"] : List Str).zip us) := fun us hl => match us, hl with | [_, _], _ => rfl
theorem bd_answer_call {kV doc pm : Value} {an : Option Addr} {cdv ct : Value} : ∀ us : List Value, us.length = (["session", "call", "numbers"] : List Str).length → bindArgs (PySem.W.fnOf "answer_call" "answer_call" (defArgs s_answer_call) (defBody s_answer_call) (defScope s_answer_call) .none kV doc pm an cdv ct) ⟨us, []⟩ = pure ((["session", "call", "numbers"] : List Str).zip us) := fun us hl => match us, hl with | [_, _, _], _ => rfl
theorem bd_answers {kV doc pm : Value} {an : Option Addr} {cdv ct : Value} : ∀ us : List Value, us.length = (["calls"] : List Str).length → bindArgs (PySem.W.fnOf "answers" "answers" (defArgs s_answers) (defBody s_answers) (defScope s_answers) .none kV doc pm an cdv ct) ⟨us, []⟩ = pure ((["calls"] : List Str).zip us) := fun us hl => match us, hl with | [_], _ => rfl
abbrev topP (p : Program) (i : Nat) : Stmt := p.main.body.getD i (.Pass ⟨0, 0, 0, 0⟩)
def obs (K : Frag) : List HD.T := [
  ([nsIn K mainGlobals "Message", findIn K (.ref 66) "__setattr__", findIn K (.ref 66) "kind", findIn K (.ref 66) "party", findIn K (.ref 66) "version", findIn K (.ref 66) "sheet"], [plainGet K 66 Str.empty, hasDictIn K 66, plainOver K 66, makesIn K 66, keepIn K (.ref 66)], none),
  ([nsIn K mainGlobals "Net", findIn K (.ref 122) "__setattr__", findIn K (.ref 122) "messages"], [plainGet K 122 Str.empty, hasDictIn K 122, plainOver K 122, makesIn K 122, keepIn K (.ref 122)], none),
  ([nsIn K mainGlobals "Party", findIn K (.ref 157) "__setattr__", findIn K (.ref 157) "draft", findIn K (.ref 157) "sent", findIn K (.ref 157) "version", findIn K (.ref 157) "acked", findIn K (.ref 157) "waits", findIn K (.ref 157) "too_late", findIn K (.ref 157) "belief"], [plainGet K 157 Str.empty, hasDictIn K 157, plainOver K 157, makesIn K 157, keepIn K (.ref 157)], none),
  ([nsIn K mainGlobals "Account", findIn K (.ref 178) "__setattr__", findIn K (.ref 178) "version", findIn K (.ref 178) "sheet", findIn K (.ref 178) "seen"], [plainGet K 178 Str.empty, hasDictIn K 178, plainOver K 178, makesIn K 178, keepIn K (.ref 178)], none),
  ([nsIn K mainGlobals "Market", findIn K (.ref 211) "__setattr__", findIn K (.ref 211) "party_count", findIn K (.ref 211) "quarter_count", findIn K (.ref 211) "gate", findIn K (.ref 211) "time", findIn K (.ref 211) "closed", findIn K (.ref 211) "parties", findIn K (.ref 211) "accounts", findIn K (.ref 211) "net"], [plainGet K 211 Str.empty, hasDictIn K 211, plainOver K 211, makesIn K 211, keepIn K (.ref 211)], none),
  ([nsIn K mainGlobals "Session", findIn K (.ref 384) "__setattr__", findIn K (.ref 384) "market"], [plainGet K 384 Str.empty, hasDictIn K 384, plainOver K 384, makesIn K 384, keepIn K (.ref 384)], none),
  ([nsIn K mainGlobals "write_amount"], [HD.codeAt K 21 "write_amount", keepIn K (.ref 21)], HD.fnAt K 21),
  ([nsIn K mainGlobals "read_amount"], [HD.codeAt K 28 "read_amount", keepIn K (.ref 28)], HD.fnAt K 28),
  ([nsIn K mainGlobals "count_rows"], [HD.codeAt K 35 "count_rows", keepIn K (.ref 35)], HD.fnAt K 35),
  ([nsIn K mainGlobals "list_rows"], [HD.codeAt K 42 "list_rows", keepIn K (.ref 42)], HD.fnAt K 42),
  ([nsIn K mainGlobals "match_amounts"], [HD.codeAt K 49 "match_amounts", keepIn K (.ref 49)], HD.fnAt K 49),
  ([findIn K (.ref 66) "__init__"], [isFn K (.ref 63), HD.codeAt K 63 "Message.__init__", keepIn K (.ref 63)], HD.fnAt K 63),
  ([findIn K (.ref 122) "__init__"], [isFn K (.ref 84), HD.codeAt K 84 "Net.__init__", keepIn K (.ref 84)], HD.fnAt K 84),
  ([findIn K (.ref 122) "under_way"], [isFn K (.ref 91), HD.codeAt K 91 "Net.under_way", keepIn K (.ref 91)], HD.fnAt K 91),
  ([findIn K (.ref 122) "full"], [isFn K (.ref 98), HD.codeAt K 98 "Net.full", keepIn K (.ref 98)], HD.fnAt K 98),
  ([findIn K (.ref 122) "post"], [isFn K (.ref 105), HD.codeAt K 105 "Net.post", keepIn K (.ref 105)], HD.fnAt K 105),
  ([findIn K (.ref 122) "take"], [isFn K (.ref 112), HD.codeAt K 112 "Net.take", keepIn K (.ref 112)], HD.fnAt K 112),
  ([findIn K (.ref 122) "double"], [isFn K (.ref 119), HD.codeAt K 119 "Net.double", keepIn K (.ref 119)], HD.fnAt K 119),
  ([nsIn K mainGlobals "describe"], [HD.codeAt K 133 "describe", keepIn K (.ref 133)], HD.fnAt K 133),
  ([nsIn K mainGlobals "describe_all"], [HD.codeAt K 140 "describe_all", keepIn K (.ref 140)], HD.fnAt K 140),
  ([findIn K (.ref 157) "__init__"], [isFn K (.ref 154), HD.codeAt K 154 "Party.__init__", keepIn K (.ref 154)], HD.fnAt K 154),
  ([findIn K (.ref 178) "__init__"], [isFn K (.ref 175), HD.codeAt K 175 "Account.__init__", keepIn K (.ref 175)], HD.fnAt K 175),
  ([findIn K (.ref 211) "__init__"], [isFn K (.ref 194), HD.codeAt K 194 "Market.__init__", keepIn K (.ref 194)], HD.fnAt K 194),
  ([findIn K (.ref 211) "party_of"], [isFn K (.ref 201), HD.codeAt K 201 "Market.party_of", keepIn K (.ref 201)], HD.fnAt K 201),
  ([findIn K (.ref 211) "account_of"], [isFn K (.ref 208), HD.codeAt K 208 "Market.account_of", keepIn K (.ref 208)], HD.fnAt K 208),
  ([nsIn K mainGlobals "held_amount"], [HD.codeAt K 222 "held_amount", keepIn K (.ref 222)], HD.fnAt K 222),
  ([nsIn K mainGlobals "matched_sheet"], [HD.codeAt K 229 "matched_sheet", keepIn K (.ref 229)], HD.fnAt K 229),
  ([nsIn K mainGlobals "matched_sum"], [HD.codeAt K 234 "matched_sum", keepIn K (.ref 234)], HD.fnAt K 234),
  ([nsIn K mainGlobals "list_unmatched"], [HD.codeAt K 241 "list_unmatched", keepIn K (.ref 241)], HD.fnAt K 241),
  ([nsIn K mainGlobals "post_sent_sheet"], [HD.codeAt K 248 "post_sent_sheet", keepIn K (.ref 248)], HD.fnAt K 248),
  ([nsIn K mainGlobals "send"], [HD.codeAt K 255 "send", keepIn K (.ref 255)], HD.fnAt K 255),
  ([nsIn K mainGlobals "arrive"], [HD.codeAt K 262 "arrive", keepIn K (.ref 262)], HD.fnAt K 262),
  ([nsIn K mainGlobals "receive_sheet"], [HD.codeAt K 269 "receive_sheet", keepIn K (.ref 269)], HD.fnAt K 269),
  ([nsIn K mainGlobals "receive_have"], [HD.codeAt K 276 "receive_have", keepIn K (.ref 276)], HD.fnAt K 276),
  ([nsIn K mainGlobals "receive_late"], [HD.codeAt K 283 "receive_late", keepIn K (.ref 283)], HD.fnAt K 283),
  ([nsIn K mainGlobals "receive_matched"], [HD.codeAt K 290 "receive_matched", keepIn K (.ref 290)], HD.fnAt K 290),
  ([nsIn K mainGlobals "receive_seen"], [HD.codeAt K 297 "receive_seen", keepIn K (.ref 297)], HD.fnAt K 297),
  ([nsIn K mainGlobals "tick"], [HD.codeAt K 304 "tick", keepIn K (.ref 304)], HD.fnAt K 304),
  ([nsIn K mainGlobals "post_again"], [HD.codeAt K 311 "post_again", keepIn K (.ref 311)], HD.fnAt K 311),
  ([nsIn K mainGlobals "post_confirmations"], [HD.codeAt K 318 "post_confirmations", keepIn K (.ref 318)], HD.fnAt K 318),
  ([nsIn K mainGlobals "calm"], [HD.codeAt K 325 "calm", keepIn K (.ref 325)], HD.fnAt K 325),
  ([findIn K (.ref 384) "__init__"], [isFn K (.ref 381), HD.codeAt K 381 "Session.__init__", keepIn K (.ref 381)], HD.fnAt K 381),
  ([nsIn K mainGlobals "write_call"], [HD.codeAt K 395 "write_call", keepIn K (.ref 395)], HD.fnAt K 395),
  ([nsIn K mainGlobals "clear_call"], [HD.codeAt K 402 "clear_call", keepIn K (.ref 402)], HD.fnAt K 402),
  ([nsIn K mainGlobals "send_call"], [HD.codeAt K 409 "send_call", keepIn K (.ref 409)], HD.fnAt K 409),
  ([nsIn K mainGlobals "as_number"], [HD.codeAt K 416 "as_number", keepIn K (.ref 416)], HD.fnAt K 416),
  ([nsIn K mainGlobals "tell_tick"], [HD.codeAt K 423 "tell_tick", keepIn K (.ref 423)], HD.fnAt K 423),
  ([nsIn K mainGlobals "tick_call"], [HD.codeAt K 430 "tick_call", keepIn K (.ref 430)], HD.fnAt K 430),
  ([nsIn K mainGlobals "deliver_call"], [HD.codeAt K 437 "deliver_call", keepIn K (.ref 437)], HD.fnAt K 437),
  ([nsIn K mainGlobals "lose_call"], [HD.codeAt K 444 "lose_call", keepIn K (.ref 444)], HD.fnAt K 444),
  ([nsIn K mainGlobals "double_call"], [HD.codeAt K 451 "double_call", keepIn K (.ref 451)], HD.fnAt K 451),
  ([nsIn K mainGlobals "calm_call"], [HD.codeAt K 458 "calm_call", keepIn K (.ref 458)], HD.fnAt K 458),
  ([nsIn K mainGlobals "party_call"], [HD.codeAt K 465 "party_call", keepIn K (.ref 465)], HD.fnAt K 465),
  ([nsIn K mainGlobals "house_call"], [HD.codeAt K 472 "house_call", keepIn K (.ref 472)], HD.fnAt K 472),
  ([nsIn K mainGlobals "draft_call"], [HD.codeAt K 479 "draft_call", keepIn K (.ref 479)], HD.fnAt K 479),
  ([nsIn K mainGlobals "held_call"], [HD.codeAt K 486 "held_call", keepIn K (.ref 486)], HD.fnAt K 486),
  ([nsIn K mainGlobals "final_call"], [HD.codeAt K 493 "final_call", keepIn K (.ref 493)], HD.fnAt K 493),
  ([nsIn K mainGlobals "belief_call"], [HD.codeAt K 500 "belief_call", keepIn K (.ref 500)], HD.fnAt K 500),
  ([nsIn K mainGlobals "flying_call"], [HD.codeAt K 507 "flying_call", keepIn K (.ref 507)], HD.fnAt K 507),
  ([nsIn K mainGlobals "unmatched_call"], [HD.codeAt K 514 "unmatched_call", keepIn K (.ref 514)], HD.fnAt K 514),
  ([nsIn K mainGlobals "now_call"], [HD.codeAt K 521 "now_call", keepIn K (.ref 521)], HD.fnAt K 521),
  ([nsIn K mainGlobals "total_call"], [HD.codeAt K 526 "total_call", keepIn K (.ref 526)], HD.fnAt K 526),
  ([nsIn K mainGlobals "width_of"], [HD.codeAt K 535 "width_of", keepIn K (.ref 535)], HD.fnAt K 535),
  ([nsIn K mainGlobals "in_ranges"], [HD.codeAt K 542 "in_ranges", keepIn K (.ref 542)], HD.fnAt K 542),
  ([nsIn K mainGlobals "answer_call"], [HD.codeAt K 549 "answer_call", keepIn K (.ref 549)], HD.fnAt K 549),
  ([nsIn K mainGlobals "answers"], [HD.codeAt K 556 "answers", keepIn K (.ref 556)], HD.fnAt K 556),
  ([nsIn K mainGlobals "MOST_MESSAGES"], [], none),
  ([nsIn K mainGlobals "KIND_SHEET"], [], none),
  ([nsIn K mainGlobals "KIND_HAVE"], [], none),
  ([nsIn K mainGlobals "KIND_LATE"], [], none),
  ([nsIn K mainGlobals "KIND_MATCHED"], [], none),
  ([nsIn K mainGlobals "KIND_SEEN"], [], none),
  ([nsIn K mainGlobals "ACCEPTED"], [], none),
  ([nsIn K mainGlobals "OUT_OF_RANGE"], [], none),
  ([nsIn K mainGlobals "NOTHING_OPEN"], [], none),
  ([nsIn K mainGlobals "NO_SUCH_PARTY"], [], none),
  ([nsIn K mainGlobals "NO_SUCH_QUARTER"], [], none),
  ([nsIn K mainGlobals "NO_MORE_VERSIONS"], [], none),
  ([nsIn K mainGlobals "NO_SUCH_MESSAGE"], [], none),
  ([nsIn K mainGlobals "NET_IS_FULL"], [], none),
  ([nsIn K mainGlobals "NOT_YET"], [], none),
  ([nsIn K mainGlobals "CALL_OPEN"], [], none),
  ([nsIn K mainGlobals "LAST_VERSION"], [], none),
  ([nsIn K mainGlobals "RANGES"], [tblOk K 326 tab_RANGES], none),
  ([nsIn K mainGlobals "PARTY_CALLS"], [tupOk K 367 tab_PARTY_CALLS], none),
  ([nsIn K mainGlobals "HANDLERS"], [hndOk K 527 [(1, 395), (2, 402), (3, 409), (4, 430), (5, 437), (6, 444), (7, 451), (8, 458), (9, 465), (10, 472), (11, 479), (12, 486), (13, 493), (14, 500), (15, 507), (16, 514), (17, 521), (18, 526)]], none),
  ([nsIn K mainGlobals "len"], [], none),
  ([nsIn K mainGlobals "min"], [], none),
  ([nsIn K mainGlobals "max"], [], none),
  ([nsIn K mainGlobals "dict"], [], none),
  ([nsIn K mainGlobals "range"], [], none),
  ([nsIn K mainGlobals "zip"], [], none),
  ([nsIn K mainGlobals "sorted"], [], none),
  ([nsIn K mainGlobals "sum"], [], none)]
def good (p : Program) : List HD.T := [
  ([some (some (.ref 66)), some (some (.builtin "object.__setattr__")), some none, some none, some none, some none], [true, true, true, true, true], none),
  ([some (some (.ref 122)), some (some (.builtin "object.__setattr__")), some none], [true, true, true, true, true], none),
  ([some (some (.ref 157)), some (some (.builtin "object.__setattr__")), some none, some none, some none, some none, some none, some none, some none], [true, true, true, true, true], none),
  ([some (some (.ref 178)), some (some (.builtin "object.__setattr__")), some none, some none, some none], [true, true, true, true, true], none),
  ([some (some (.ref 211)), some (some (.builtin "object.__setattr__")), some none, some none, some none, some none, some none, some none, some none, some none], [true, true, true, true, true], none),
  ([some (some (.ref 384)), some (some (.builtin "object.__setattr__")), some none], [true, true, true, true, true], none),
  ([some (some (.ref 21))], [true, true], some (HD.fn0 "write_amount" "write_amount" (topP p 1))),
  ([some (some (.ref 28))], [true, true], some (HD.fn0 "read_amount" "read_amount" (topP p 2))),
  ([some (some (.ref 35))], [true, true], some (HD.fn0 "count_rows" "count_rows" (topP p 3))),
  ([some (some (.ref 42))], [true, true], some (HD.fn0 "list_rows" "list_rows" (topP p 4))),
  ([some (some (.ref 49))], [true, true], some (HD.fn0 "match_amounts" "match_amounts" (topP p 5))),
  ([some (some (.ref 63))], [true, true, true], some (HD.fn0 "__init__" "Message.__init__" (inClass (topP p 13) 0))),
  ([some (some (.ref 84))], [true, true, true], some (HD.fn0 "__init__" "Net.__init__" (inClass (topP p 14) 0))),
  ([some (some (.ref 91))], [true, true, true], some (HD.fn0 "under_way" "Net.under_way" (inClass (topP p 14) 1))),
  ([some (some (.ref 98))], [true, true, true], some (HD.fn0 "full" "Net.full" (inClass (topP p 14) 2))),
  ([some (some (.ref 105))], [true, true, true], some (HD.fn0 "post" "Net.post" (inClass (topP p 14) 3))),
  ([some (some (.ref 112))], [true, true, true], some (HD.fn0 "take" "Net.take" (inClass (topP p 14) 4))),
  ([some (some (.ref 119))], [true, true, true], some (HD.fn0 "double" "Net.double" (inClass (topP p 14) 5))),
  ([some (some (.ref 133))], [true, true], some (HD.fn0 "describe" "describe" (topP p 15))),
  ([some (some (.ref 140))], [true, true], some (HD.fn0 "describe_all" "describe_all" (topP p 16))),
  ([some (some (.ref 154))], [true, true, true], some (HD.fn0 "__init__" "Party.__init__" (inClass (topP p 18) 0))),
  ([some (some (.ref 175))], [true, true, true], some (HD.fn0 "__init__" "Account.__init__" (inClass (topP p 19) 0))),
  ([some (some (.ref 194))], [true, true, true], some (HD.fn0 "__init__" "Market.__init__" (inClass (topP p 20) 0))),
  ([some (some (.ref 201))], [true, true, true], some (HD.fn0 "party_of" "Market.party_of" (inClass (topP p 20) 1))),
  ([some (some (.ref 208))], [true, true, true], some (HD.fn0 "account_of" "Market.account_of" (inClass (topP p 20) 2))),
  ([some (some (.ref 222))], [true, true], some (HD.fn0 "held_amount" "held_amount" (topP p 21))),
  ([some (some (.ref 229))], [true, true], some (HD.fn0 "matched_sheet" "matched_sheet" (topP p 22))),
  ([some (some (.ref 234))], [true, true], some (HD.fn0 "matched_sum" "matched_sum" (topP p 23))),
  ([some (some (.ref 241))], [true, true], some (HD.fn0 "list_unmatched" "list_unmatched" (topP p 24))),
  ([some (some (.ref 248))], [true, true], some (HD.fn0 "post_sent_sheet" "post_sent_sheet" (topP p 26))),
  ([some (some (.ref 255))], [true, true], some (HD.fn0 "send" "send" (topP p 27))),
  ([some (some (.ref 262))], [true, true], some (HD.fn0 "arrive" "arrive" (topP p 28))),
  ([some (some (.ref 269))], [true, true], some (HD.fn0 "receive_sheet" "receive_sheet" (topP p 29))),
  ([some (some (.ref 276))], [true, true], some (HD.fn0 "receive_have" "receive_have" (topP p 30))),
  ([some (some (.ref 283))], [true, true], some (HD.fn0 "receive_late" "receive_late" (topP p 31))),
  ([some (some (.ref 290))], [true, true], some (HD.fn0 "receive_matched" "receive_matched" (topP p 32))),
  ([some (some (.ref 297))], [true, true], some (HD.fn0 "receive_seen" "receive_seen" (topP p 33))),
  ([some (some (.ref 304))], [true, true], some (HD.fn0 "tick" "tick" (topP p 34))),
  ([some (some (.ref 311))], [true, true], some (HD.fn0 "post_again" "post_again" (topP p 35))),
  ([some (some (.ref 318))], [true, true], some (HD.fn0 "post_confirmations" "post_confirmations" (topP p 36))),
  ([some (some (.ref 325))], [true, true], some (HD.fn0 "calm" "calm" (topP p 37))),
  ([some (some (.ref 381))], [true, true, true], some (HD.fn0 "__init__" "Session.__init__" (inClass (topP p 52) 0))),
  ([some (some (.ref 395))], [true, true], some (HD.fn0 "write_call" "write_call" (topP p 53))),
  ([some (some (.ref 402))], [true, true], some (HD.fn0 "clear_call" "clear_call" (topP p 54))),
  ([some (some (.ref 409))], [true, true], some (HD.fn0 "send_call" "send_call" (topP p 55))),
  ([some (some (.ref 416))], [true, true], some (HD.fn0 "as_number" "as_number" (topP p 56))),
  ([some (some (.ref 423))], [true, true], some (HD.fn0 "tell_tick" "tell_tick" (topP p 57))),
  ([some (some (.ref 430))], [true, true], some (HD.fn0 "tick_call" "tick_call" (topP p 58))),
  ([some (some (.ref 437))], [true, true], some (HD.fn0 "deliver_call" "deliver_call" (topP p 59))),
  ([some (some (.ref 444))], [true, true], some (HD.fn0 "lose_call" "lose_call" (topP p 60))),
  ([some (some (.ref 451))], [true, true], some (HD.fn0 "double_call" "double_call" (topP p 61))),
  ([some (some (.ref 458))], [true, true], some (HD.fn0 "calm_call" "calm_call" (topP p 62))),
  ([some (some (.ref 465))], [true, true], some (HD.fn0 "party_call" "party_call" (topP p 63))),
  ([some (some (.ref 472))], [true, true], some (HD.fn0 "house_call" "house_call" (topP p 64))),
  ([some (some (.ref 479))], [true, true], some (HD.fn0 "draft_call" "draft_call" (topP p 65))),
  ([some (some (.ref 486))], [true, true], some (HD.fn0 "held_call" "held_call" (topP p 66))),
  ([some (some (.ref 493))], [true, true], some (HD.fn0 "final_call" "final_call" (topP p 67))),
  ([some (some (.ref 500))], [true, true], some (HD.fn0 "belief_call" "belief_call" (topP p 68))),
  ([some (some (.ref 507))], [true, true], some (HD.fn0 "flying_call" "flying_call" (topP p 69))),
  ([some (some (.ref 514))], [true, true], some (HD.fn0 "unmatched_call" "unmatched_call" (topP p 70))),
  ([some (some (.ref 521))], [true, true], some (HD.fn0 "now_call" "now_call" (topP p 71))),
  ([some (some (.ref 526))], [true, true], some (HD.fn0 "total_call" "total_call" (topP p 72))),
  ([some (some (.ref 535))], [true, true], some (HD.fn0 "width_of" "width_of" (topP p 74))),
  ([some (some (.ref 542))], [true, true], some (HD.fn0 "in_ranges" "in_ranges" (topP p 75))),
  ([some (some (.ref 549))], [true, true], some (HD.fn0 "answer_call" "answer_call" (topP p 76))),
  ([some (some (.ref 556))], [true, true], some (HD.fn0 "answers" "answers" (topP p 78))),
  ([some (some (.int (40) 235))], [], none),
  ([some (some (.int (1) 237))], [], none),
  ([some (some (.int (2) 239))], [], none),
  ([some (some (.int (3) 241))], [], none),
  ([some (some (.int (4) 243))], [], none),
  ([some (some (.int (5) 245))], [], none),
  ([some (some (.int (0) 630))], [], none),
  ([some (some (.int (-1) 633))], [], none),
  ([some (some (.int (-2) 636))], [], none),
  ([some (some (.int (-3) 639))], [], none),
  ([some (some (.int (-4) 642))], [], none),
  ([some (some (.int (-5) 645))], [], none),
  ([some (some (.int (-6) 648))], [], none),
  ([some (some (.int (-7) 651))], [], none),
  ([some (some (.int (-8) 654))], [], none),
  ([some (some (.int (0) 656))], [], none),
  ([some (some (.int (50) 658))], [], none),
  ([some (some (.ref 326))], [true], none),
  ([some (some (.ref 367))], [true], none),
  ([some (some (.ref 527))], [true], none),
  ([some none], [], none),
  ([some none], [], none),
  ([some none], [], none),
  ([some none], [], none),
  ([some none], [], none),
  ([some none], [], none),
  ([some none], [], none),
  ([some none], [], none)]
section
variable {K : Frag}
theorem all_mk {P : Program} {w : World} {h0 : Heap} {mg : Str → Option Value} {fa : Addr} (X : K.In h0) (G : h0.Ns mainGlobals mg) (hfa : mg "answers" = some (.ref fa)) (h : obs K = good PySem.Challenge.pw_gatehouse_s01_answers) :
    ∃ fd : FuncData, (∀ (s : Shared) (us : List Value), us.length = (["calls"] : List Str).length → BindsTo s fd ⟨us, []⟩ ((["calls"] : List Str).zip us)) ∧ ∀ base : Heap, K.In base → base.Ns mainGlobals mg → FnOk P w K mg base CX0 9 fa fd ["calls"] (sp_answers K) := by
  have aC_Message : nsIn K mainGlobals "Message" = some (some (.ref 66)) := Option.some.inj (congrArg (HD.gv 0 0) h)
  have sa_Message : findIn K (.ref 66) "__setattr__" = some (some (.builtin "object.__setattr__")) := Option.some.inj (congrArg (HD.gv 0 1) h)
  have no_Message_kind : findIn K (.ref 66) "kind" = some none := Option.some.inj (congrArg (HD.gv 0 2) h)
  have no_Message_party : findIn K (.ref 66) "party" = some none := Option.some.inj (congrArg (HD.gv 0 3) h)
  have no_Message_version : findIn K (.ref 66) "version" = some none := Option.some.inj (congrArg (HD.gv 0 4) h)
  have no_Message_sheet : findIn K (.ref 66) "sheet" = some none := Option.some.inj (congrArg (HD.gv 0 5) h)
  have pg_Message : plainGet K 66 Str.empty = true := Option.some.inj (congrArg (HD.gb 0 0) h)
  have hd_Message : hasDictIn K 66 = true := Option.some.inj (congrArg (HD.gb 0 1) h)
  have po_Message : plainOver K 66 = true := Option.some.inj (congrArg (HD.gb 0 2) h)
  have mk_Message : makesIn K 66 = true := Option.some.inj (congrArg (HD.gb 0 3) h)
  have kc_Message : keepIn K (.ref 66) = true := Option.some.inj (congrArg (HD.gb 0 4) h)
  have aC_Net : nsIn K mainGlobals "Net" = some (some (.ref 122)) := Option.some.inj (congrArg (HD.gv 1 0) h)
  have sa_Net : findIn K (.ref 122) "__setattr__" = some (some (.builtin "object.__setattr__")) := Option.some.inj (congrArg (HD.gv 1 1) h)
  have no_Net_messages : findIn K (.ref 122) "messages" = some none := Option.some.inj (congrArg (HD.gv 1 2) h)
  have pg_Net : plainGet K 122 Str.empty = true := Option.some.inj (congrArg (HD.gb 1 0) h)
  have hd_Net : hasDictIn K 122 = true := Option.some.inj (congrArg (HD.gb 1 1) h)
  have po_Net : plainOver K 122 = true := Option.some.inj (congrArg (HD.gb 1 2) h)
  have mk_Net : makesIn K 122 = true := Option.some.inj (congrArg (HD.gb 1 3) h)
  have kc_Net : keepIn K (.ref 122) = true := Option.some.inj (congrArg (HD.gb 1 4) h)
  have aC_Party : nsIn K mainGlobals "Party" = some (some (.ref 157)) := Option.some.inj (congrArg (HD.gv 2 0) h)
  have sa_Party : findIn K (.ref 157) "__setattr__" = some (some (.builtin "object.__setattr__")) := Option.some.inj (congrArg (HD.gv 2 1) h)
  have no_Party_draft : findIn K (.ref 157) "draft" = some none := Option.some.inj (congrArg (HD.gv 2 2) h)
  have no_Party_sent : findIn K (.ref 157) "sent" = some none := Option.some.inj (congrArg (HD.gv 2 3) h)
  have no_Party_version : findIn K (.ref 157) "version" = some none := Option.some.inj (congrArg (HD.gv 2 4) h)
  have no_Party_acked : findIn K (.ref 157) "acked" = some none := Option.some.inj (congrArg (HD.gv 2 5) h)
  have no_Party_waits : findIn K (.ref 157) "waits" = some none := Option.some.inj (congrArg (HD.gv 2 6) h)
  have no_Party_too_late : findIn K (.ref 157) "too_late" = some none := Option.some.inj (congrArg (HD.gv 2 7) h)
  have no_Party_belief : findIn K (.ref 157) "belief" = some none := Option.some.inj (congrArg (HD.gv 2 8) h)
  have pg_Party : plainGet K 157 Str.empty = true := Option.some.inj (congrArg (HD.gb 2 0) h)
  have hd_Party : hasDictIn K 157 = true := Option.some.inj (congrArg (HD.gb 2 1) h)
  have po_Party : plainOver K 157 = true := Option.some.inj (congrArg (HD.gb 2 2) h)
  have mk_Party : makesIn K 157 = true := Option.some.inj (congrArg (HD.gb 2 3) h)
  have kc_Party : keepIn K (.ref 157) = true := Option.some.inj (congrArg (HD.gb 2 4) h)
  have aC_Account : nsIn K mainGlobals "Account" = some (some (.ref 178)) := Option.some.inj (congrArg (HD.gv 3 0) h)
  have sa_Account : findIn K (.ref 178) "__setattr__" = some (some (.builtin "object.__setattr__")) := Option.some.inj (congrArg (HD.gv 3 1) h)
  have no_Account_version : findIn K (.ref 178) "version" = some none := Option.some.inj (congrArg (HD.gv 3 2) h)
  have no_Account_sheet : findIn K (.ref 178) "sheet" = some none := Option.some.inj (congrArg (HD.gv 3 3) h)
  have no_Account_seen : findIn K (.ref 178) "seen" = some none := Option.some.inj (congrArg (HD.gv 3 4) h)
  have pg_Account : plainGet K 178 Str.empty = true := Option.some.inj (congrArg (HD.gb 3 0) h)
  have hd_Account : hasDictIn K 178 = true := Option.some.inj (congrArg (HD.gb 3 1) h)
  have po_Account : plainOver K 178 = true := Option.some.inj (congrArg (HD.gb 3 2) h)
  have mk_Account : makesIn K 178 = true := Option.some.inj (congrArg (HD.gb 3 3) h)
  have kc_Account : keepIn K (.ref 178) = true := Option.some.inj (congrArg (HD.gb 3 4) h)
  have aC_Market : nsIn K mainGlobals "Market" = some (some (.ref 211)) := Option.some.inj (congrArg (HD.gv 4 0) h)
  have sa_Market : findIn K (.ref 211) "__setattr__" = some (some (.builtin "object.__setattr__")) := Option.some.inj (congrArg (HD.gv 4 1) h)
  have no_Market_party_count : findIn K (.ref 211) "party_count" = some none := Option.some.inj (congrArg (HD.gv 4 2) h)
  have no_Market_quarter_count : findIn K (.ref 211) "quarter_count" = some none := Option.some.inj (congrArg (HD.gv 4 3) h)
  have no_Market_gate : findIn K (.ref 211) "gate" = some none := Option.some.inj (congrArg (HD.gv 4 4) h)
  have no_Market_time : findIn K (.ref 211) "time" = some none := Option.some.inj (congrArg (HD.gv 4 5) h)
  have no_Market_closed : findIn K (.ref 211) "closed" = some none := Option.some.inj (congrArg (HD.gv 4 6) h)
  have no_Market_parties : findIn K (.ref 211) "parties" = some none := Option.some.inj (congrArg (HD.gv 4 7) h)
  have no_Market_accounts : findIn K (.ref 211) "accounts" = some none := Option.some.inj (congrArg (HD.gv 4 8) h)
  have no_Market_net : findIn K (.ref 211) "net" = some none := Option.some.inj (congrArg (HD.gv 4 9) h)
  have pg_Market : plainGet K 211 Str.empty = true := Option.some.inj (congrArg (HD.gb 4 0) h)
  have hd_Market : hasDictIn K 211 = true := Option.some.inj (congrArg (HD.gb 4 1) h)
  have po_Market : plainOver K 211 = true := Option.some.inj (congrArg (HD.gb 4 2) h)
  have mk_Market : makesIn K 211 = true := Option.some.inj (congrArg (HD.gb 4 3) h)
  have kc_Market : keepIn K (.ref 211) = true := Option.some.inj (congrArg (HD.gb 4 4) h)
  have aC_Session : nsIn K mainGlobals "Session" = some (some (.ref 384)) := Option.some.inj (congrArg (HD.gv 5 0) h)
  have sa_Session : findIn K (.ref 384) "__setattr__" = some (some (.builtin "object.__setattr__")) := Option.some.inj (congrArg (HD.gv 5 1) h)
  have no_Session_market : findIn K (.ref 384) "market" = some none := Option.some.inj (congrArg (HD.gv 5 2) h)
  have pg_Session : plainGet K 384 Str.empty = true := Option.some.inj (congrArg (HD.gb 5 0) h)
  have hd_Session : hasDictIn K 384 = true := Option.some.inj (congrArg (HD.gb 5 1) h)
  have po_Session : plainOver K 384 = true := Option.some.inj (congrArg (HD.gb 5 2) h)
  have mk_Session : makesIn K 384 = true := Option.some.inj (congrArg (HD.gb 5 3) h)
  have kc_Session : keepIn K (.ref 384) = true := Option.some.inj (congrArg (HD.gb 5 4) h)
  have a_write_amount : nsIn K mainGlobals "write_amount" = some (some (.ref 21)) := Option.some.inj (congrArg (HD.gv 6 0) h)
  have co_write_amount : HD.codeAt K 21 "write_amount" = true := Option.some.inj (congrArg (HD.gb 6 0) h)
  have kp_write_amount : keepIn K (.ref 21) = true := Option.some.inj (congrArg (HD.gb 6 1) h)
  have fn_write_amount : HD.fnAt K 21 = some (HD.fn0 "write_amount" "write_amount" s_write_amount) := congrArg (HD.gf 6) h
  have a_read_amount : nsIn K mainGlobals "read_amount" = some (some (.ref 28)) := Option.some.inj (congrArg (HD.gv 7 0) h)
  have co_read_amount : HD.codeAt K 28 "read_amount" = true := Option.some.inj (congrArg (HD.gb 7 0) h)
  have kp_read_amount : keepIn K (.ref 28) = true := Option.some.inj (congrArg (HD.gb 7 1) h)
  have fn_read_amount : HD.fnAt K 28 = some (HD.fn0 "read_amount" "read_amount" s_read_amount) := congrArg (HD.gf 7) h
  have a_count_rows : nsIn K mainGlobals "count_rows" = some (some (.ref 35)) := Option.some.inj (congrArg (HD.gv 8 0) h)
  have co_count_rows : HD.codeAt K 35 "count_rows" = true := Option.some.inj (congrArg (HD.gb 8 0) h)
  have kp_count_rows : keepIn K (.ref 35) = true := Option.some.inj (congrArg (HD.gb 8 1) h)
  have fn_count_rows : HD.fnAt K 35 = some (HD.fn0 "count_rows" "count_rows" s_count_rows) := congrArg (HD.gf 8) h
  have a_list_rows : nsIn K mainGlobals "list_rows" = some (some (.ref 42)) := Option.some.inj (congrArg (HD.gv 9 0) h)
  have co_list_rows : HD.codeAt K 42 "list_rows" = true := Option.some.inj (congrArg (HD.gb 9 0) h)
  have kp_list_rows : keepIn K (.ref 42) = true := Option.some.inj (congrArg (HD.gb 9 1) h)
  have fn_list_rows : HD.fnAt K 42 = some (HD.fn0 "list_rows" "list_rows" s_list_rows) := congrArg (HD.gf 9) h
  have a_match_amounts : nsIn K mainGlobals "match_amounts" = some (some (.ref 49)) := Option.some.inj (congrArg (HD.gv 10 0) h)
  have co_match_amounts : HD.codeAt K 49 "match_amounts" = true := Option.some.inj (congrArg (HD.gb 10 0) h)
  have kp_match_amounts : keepIn K (.ref 49) = true := Option.some.inj (congrArg (HD.gb 10 1) h)
  have fn_match_amounts : HD.fnAt K 49 = some (HD.fn0 "match_amounts" "match_amounts" s_match_amounts) := congrArg (HD.gf 10) h
  have a_Message_init : findIn K (.ref 66) "__init__" = some (some (.ref 63)) := Option.some.inj (congrArg (HD.gv 11 0) h)
  have i_Message_init : isFn K (.ref 63) = true := Option.some.inj (congrArg (HD.gb 11 0) h)
  have co_Message_init : HD.codeAt K 63 "Message.__init__" = true := Option.some.inj (congrArg (HD.gb 11 1) h)
  have kp_Message_init : keepIn K (.ref 63) = true := Option.some.inj (congrArg (HD.gb 11 2) h)
  have fn_Message_init : HD.fnAt K 63 = some (HD.fn0 "__init__" "Message.__init__" s_Message_init) := congrArg (HD.gf 11) h
  have a_Net_init : findIn K (.ref 122) "__init__" = some (some (.ref 84)) := Option.some.inj (congrArg (HD.gv 12 0) h)
  have i_Net_init : isFn K (.ref 84) = true := Option.some.inj (congrArg (HD.gb 12 0) h)
  have co_Net_init : HD.codeAt K 84 "Net.__init__" = true := Option.some.inj (congrArg (HD.gb 12 1) h)
  have kp_Net_init : keepIn K (.ref 84) = true := Option.some.inj (congrArg (HD.gb 12 2) h)
  have fn_Net_init : HD.fnAt K 84 = some (HD.fn0 "__init__" "Net.__init__" s_Net_init) := congrArg (HD.gf 12) h
  have a_Net_under_way : findIn K (.ref 122) "under_way" = some (some (.ref 91)) := Option.some.inj (congrArg (HD.gv 13 0) h)
  have i_Net_under_way : isFn K (.ref 91) = true := Option.some.inj (congrArg (HD.gb 13 0) h)
  have co_Net_under_way : HD.codeAt K 91 "Net.under_way" = true := Option.some.inj (congrArg (HD.gb 13 1) h)
  have kp_Net_under_way : keepIn K (.ref 91) = true := Option.some.inj (congrArg (HD.gb 13 2) h)
  have fn_Net_under_way : HD.fnAt K 91 = some (HD.fn0 "under_way" "Net.under_way" s_Net_under_way) := congrArg (HD.gf 13) h
  have a_Net_full : findIn K (.ref 122) "full" = some (some (.ref 98)) := Option.some.inj (congrArg (HD.gv 14 0) h)
  have i_Net_full : isFn K (.ref 98) = true := Option.some.inj (congrArg (HD.gb 14 0) h)
  have co_Net_full : HD.codeAt K 98 "Net.full" = true := Option.some.inj (congrArg (HD.gb 14 1) h)
  have kp_Net_full : keepIn K (.ref 98) = true := Option.some.inj (congrArg (HD.gb 14 2) h)
  have fn_Net_full : HD.fnAt K 98 = some (HD.fn0 "full" "Net.full" s_Net_full) := congrArg (HD.gf 14) h
  have a_Net_post : findIn K (.ref 122) "post" = some (some (.ref 105)) := Option.some.inj (congrArg (HD.gv 15 0) h)
  have i_Net_post : isFn K (.ref 105) = true := Option.some.inj (congrArg (HD.gb 15 0) h)
  have co_Net_post : HD.codeAt K 105 "Net.post" = true := Option.some.inj (congrArg (HD.gb 15 1) h)
  have kp_Net_post : keepIn K (.ref 105) = true := Option.some.inj (congrArg (HD.gb 15 2) h)
  have fn_Net_post : HD.fnAt K 105 = some (HD.fn0 "post" "Net.post" s_Net_post) := congrArg (HD.gf 15) h
  have a_Net_take : findIn K (.ref 122) "take" = some (some (.ref 112)) := Option.some.inj (congrArg (HD.gv 16 0) h)
  have i_Net_take : isFn K (.ref 112) = true := Option.some.inj (congrArg (HD.gb 16 0) h)
  have co_Net_take : HD.codeAt K 112 "Net.take" = true := Option.some.inj (congrArg (HD.gb 16 1) h)
  have kp_Net_take : keepIn K (.ref 112) = true := Option.some.inj (congrArg (HD.gb 16 2) h)
  have fn_Net_take : HD.fnAt K 112 = some (HD.fn0 "take" "Net.take" s_Net_take) := congrArg (HD.gf 16) h
  have a_Net_double : findIn K (.ref 122) "double" = some (some (.ref 119)) := Option.some.inj (congrArg (HD.gv 17 0) h)
  have i_Net_double : isFn K (.ref 119) = true := Option.some.inj (congrArg (HD.gb 17 0) h)
  have co_Net_double : HD.codeAt K 119 "Net.double" = true := Option.some.inj (congrArg (HD.gb 17 1) h)
  have kp_Net_double : keepIn K (.ref 119) = true := Option.some.inj (congrArg (HD.gb 17 2) h)
  have fn_Net_double : HD.fnAt K 119 = some (HD.fn0 "double" "Net.double" s_Net_double) := congrArg (HD.gf 17) h
  have a_describe : nsIn K mainGlobals "describe" = some (some (.ref 133)) := Option.some.inj (congrArg (HD.gv 18 0) h)
  have co_describe : HD.codeAt K 133 "describe" = true := Option.some.inj (congrArg (HD.gb 18 0) h)
  have kp_describe : keepIn K (.ref 133) = true := Option.some.inj (congrArg (HD.gb 18 1) h)
  have fn_describe : HD.fnAt K 133 = some (HD.fn0 "describe" "describe" s_describe) := congrArg (HD.gf 18) h
  have a_describe_all : nsIn K mainGlobals "describe_all" = some (some (.ref 140)) := Option.some.inj (congrArg (HD.gv 19 0) h)
  have co_describe_all : HD.codeAt K 140 "describe_all" = true := Option.some.inj (congrArg (HD.gb 19 0) h)
  have kp_describe_all : keepIn K (.ref 140) = true := Option.some.inj (congrArg (HD.gb 19 1) h)
  have fn_describe_all : HD.fnAt K 140 = some (HD.fn0 "describe_all" "describe_all" s_describe_all) := congrArg (HD.gf 19) h
  have a_Party_init : findIn K (.ref 157) "__init__" = some (some (.ref 154)) := Option.some.inj (congrArg (HD.gv 20 0) h)
  have i_Party_init : isFn K (.ref 154) = true := Option.some.inj (congrArg (HD.gb 20 0) h)
  have co_Party_init : HD.codeAt K 154 "Party.__init__" = true := Option.some.inj (congrArg (HD.gb 20 1) h)
  have kp_Party_init : keepIn K (.ref 154) = true := Option.some.inj (congrArg (HD.gb 20 2) h)
  have fn_Party_init : HD.fnAt K 154 = some (HD.fn0 "__init__" "Party.__init__" s_Party_init) := congrArg (HD.gf 20) h
  have a_Account_init : findIn K (.ref 178) "__init__" = some (some (.ref 175)) := Option.some.inj (congrArg (HD.gv 21 0) h)
  have i_Account_init : isFn K (.ref 175) = true := Option.some.inj (congrArg (HD.gb 21 0) h)
  have co_Account_init : HD.codeAt K 175 "Account.__init__" = true := Option.some.inj (congrArg (HD.gb 21 1) h)
  have kp_Account_init : keepIn K (.ref 175) = true := Option.some.inj (congrArg (HD.gb 21 2) h)
  have fn_Account_init : HD.fnAt K 175 = some (HD.fn0 "__init__" "Account.__init__" s_Account_init) := congrArg (HD.gf 21) h
  have a_Market_init : findIn K (.ref 211) "__init__" = some (some (.ref 194)) := Option.some.inj (congrArg (HD.gv 22 0) h)
  have i_Market_init : isFn K (.ref 194) = true := Option.some.inj (congrArg (HD.gb 22 0) h)
  have co_Market_init : HD.codeAt K 194 "Market.__init__" = true := Option.some.inj (congrArg (HD.gb 22 1) h)
  have kp_Market_init : keepIn K (.ref 194) = true := Option.some.inj (congrArg (HD.gb 22 2) h)
  have fn_Market_init : HD.fnAt K 194 = some (HD.fn0 "__init__" "Market.__init__" s_Market_init) := congrArg (HD.gf 22) h
  have a_Market_party_of : findIn K (.ref 211) "party_of" = some (some (.ref 201)) := Option.some.inj (congrArg (HD.gv 23 0) h)
  have i_Market_party_of : isFn K (.ref 201) = true := Option.some.inj (congrArg (HD.gb 23 0) h)
  have co_Market_party_of : HD.codeAt K 201 "Market.party_of" = true := Option.some.inj (congrArg (HD.gb 23 1) h)
  have kp_Market_party_of : keepIn K (.ref 201) = true := Option.some.inj (congrArg (HD.gb 23 2) h)
  have fn_Market_party_of : HD.fnAt K 201 = some (HD.fn0 "party_of" "Market.party_of" s_Market_party_of) := congrArg (HD.gf 23) h
  have a_Market_account_of : findIn K (.ref 211) "account_of" = some (some (.ref 208)) := Option.some.inj (congrArg (HD.gv 24 0) h)
  have i_Market_account_of : isFn K (.ref 208) = true := Option.some.inj (congrArg (HD.gb 24 0) h)
  have co_Market_account_of : HD.codeAt K 208 "Market.account_of" = true := Option.some.inj (congrArg (HD.gb 24 1) h)
  have kp_Market_account_of : keepIn K (.ref 208) = true := Option.some.inj (congrArg (HD.gb 24 2) h)
  have fn_Market_account_of : HD.fnAt K 208 = some (HD.fn0 "account_of" "Market.account_of" s_Market_account_of) := congrArg (HD.gf 24) h
  have a_held_amount : nsIn K mainGlobals "held_amount" = some (some (.ref 222)) := Option.some.inj (congrArg (HD.gv 25 0) h)
  have co_held_amount : HD.codeAt K 222 "held_amount" = true := Option.some.inj (congrArg (HD.gb 25 0) h)
  have kp_held_amount : keepIn K (.ref 222) = true := Option.some.inj (congrArg (HD.gb 25 1) h)
  have fn_held_amount : HD.fnAt K 222 = some (HD.fn0 "held_amount" "held_amount" s_held_amount) := congrArg (HD.gf 25) h
  have a_matched_sheet : nsIn K mainGlobals "matched_sheet" = some (some (.ref 229)) := Option.some.inj (congrArg (HD.gv 26 0) h)
  have co_matched_sheet : HD.codeAt K 229 "matched_sheet" = true := Option.some.inj (congrArg (HD.gb 26 0) h)
  have kp_matched_sheet : keepIn K (.ref 229) = true := Option.some.inj (congrArg (HD.gb 26 1) h)
  have fn_matched_sheet : HD.fnAt K 229 = some (HD.fn0 "matched_sheet" "matched_sheet" s_matched_sheet) := congrArg (HD.gf 26) h
  have a_matched_sum : nsIn K mainGlobals "matched_sum" = some (some (.ref 234)) := Option.some.inj (congrArg (HD.gv 27 0) h)
  have co_matched_sum : HD.codeAt K 234 "matched_sum" = true := Option.some.inj (congrArg (HD.gb 27 0) h)
  have kp_matched_sum : keepIn K (.ref 234) = true := Option.some.inj (congrArg (HD.gb 27 1) h)
  have fn_matched_sum : HD.fnAt K 234 = some (HD.fn0 "matched_sum" "matched_sum" s_matched_sum) := congrArg (HD.gf 27) h
  have a_list_unmatched : nsIn K mainGlobals "list_unmatched" = some (some (.ref 241)) := Option.some.inj (congrArg (HD.gv 28 0) h)
  have co_list_unmatched : HD.codeAt K 241 "list_unmatched" = true := Option.some.inj (congrArg (HD.gb 28 0) h)
  have kp_list_unmatched : keepIn K (.ref 241) = true := Option.some.inj (congrArg (HD.gb 28 1) h)
  have fn_list_unmatched : HD.fnAt K 241 = some (HD.fn0 "list_unmatched" "list_unmatched" s_list_unmatched) := congrArg (HD.gf 28) h
  have a_post_sent_sheet : nsIn K mainGlobals "post_sent_sheet" = some (some (.ref 248)) := Option.some.inj (congrArg (HD.gv 29 0) h)
  have co_post_sent_sheet : HD.codeAt K 248 "post_sent_sheet" = true := Option.some.inj (congrArg (HD.gb 29 0) h)
  have kp_post_sent_sheet : keepIn K (.ref 248) = true := Option.some.inj (congrArg (HD.gb 29 1) h)
  have fn_post_sent_sheet : HD.fnAt K 248 = some (HD.fn0 "post_sent_sheet" "post_sent_sheet" s_post_sent_sheet) := congrArg (HD.gf 29) h
  have a_send : nsIn K mainGlobals "send" = some (some (.ref 255)) := Option.some.inj (congrArg (HD.gv 30 0) h)
  have co_send : HD.codeAt K 255 "send" = true := Option.some.inj (congrArg (HD.gb 30 0) h)
  have kp_send : keepIn K (.ref 255) = true := Option.some.inj (congrArg (HD.gb 30 1) h)
  have fn_send : HD.fnAt K 255 = some (HD.fn0 "send" "send" s_send) := congrArg (HD.gf 30) h
  have a_arrive : nsIn K mainGlobals "arrive" = some (some (.ref 262)) := Option.some.inj (congrArg (HD.gv 31 0) h)
  have co_arrive : HD.codeAt K 262 "arrive" = true := Option.some.inj (congrArg (HD.gb 31 0) h)
  have kp_arrive : keepIn K (.ref 262) = true := Option.some.inj (congrArg (HD.gb 31 1) h)
  have fn_arrive : HD.fnAt K 262 = some (HD.fn0 "arrive" "arrive" s_arrive) := congrArg (HD.gf 31) h
  have a_receive_sheet : nsIn K mainGlobals "receive_sheet" = some (some (.ref 269)) := Option.some.inj (congrArg (HD.gv 32 0) h)
  have co_receive_sheet : HD.codeAt K 269 "receive_sheet" = true := Option.some.inj (congrArg (HD.gb 32 0) h)
  have kp_receive_sheet : keepIn K (.ref 269) = true := Option.some.inj (congrArg (HD.gb 32 1) h)
  have fn_receive_sheet : HD.fnAt K 269 = some (HD.fn0 "receive_sheet" "receive_sheet" s_receive_sheet) := congrArg (HD.gf 32) h
  have a_receive_have : nsIn K mainGlobals "receive_have" = some (some (.ref 276)) := Option.some.inj (congrArg (HD.gv 33 0) h)
  have co_receive_have : HD.codeAt K 276 "receive_have" = true := Option.some.inj (congrArg (HD.gb 33 0) h)
  have kp_receive_have : keepIn K (.ref 276) = true := Option.some.inj (congrArg (HD.gb 33 1) h)
  have fn_receive_have : HD.fnAt K 276 = some (HD.fn0 "receive_have" "receive_have" s_receive_have) := congrArg (HD.gf 33) h
  have a_receive_late : nsIn K mainGlobals "receive_late" = some (some (.ref 283)) := Option.some.inj (congrArg (HD.gv 34 0) h)
  have co_receive_late : HD.codeAt K 283 "receive_late" = true := Option.some.inj (congrArg (HD.gb 34 0) h)
  have kp_receive_late : keepIn K (.ref 283) = true := Option.some.inj (congrArg (HD.gb 34 1) h)
  have fn_receive_late : HD.fnAt K 283 = some (HD.fn0 "receive_late" "receive_late" s_receive_late) := congrArg (HD.gf 34) h
  have a_receive_matched : nsIn K mainGlobals "receive_matched" = some (some (.ref 290)) := Option.some.inj (congrArg (HD.gv 35 0) h)
  have co_receive_matched : HD.codeAt K 290 "receive_matched" = true := Option.some.inj (congrArg (HD.gb 35 0) h)
  have kp_receive_matched : keepIn K (.ref 290) = true := Option.some.inj (congrArg (HD.gb 35 1) h)
  have fn_receive_matched : HD.fnAt K 290 = some (HD.fn0 "receive_matched" "receive_matched" s_receive_matched) := congrArg (HD.gf 35) h
  have a_receive_seen : nsIn K mainGlobals "receive_seen" = some (some (.ref 297)) := Option.some.inj (congrArg (HD.gv 36 0) h)
  have co_receive_seen : HD.codeAt K 297 "receive_seen" = true := Option.some.inj (congrArg (HD.gb 36 0) h)
  have kp_receive_seen : keepIn K (.ref 297) = true := Option.some.inj (congrArg (HD.gb 36 1) h)
  have fn_receive_seen : HD.fnAt K 297 = some (HD.fn0 "receive_seen" "receive_seen" s_receive_seen) := congrArg (HD.gf 36) h
  have a_tick : nsIn K mainGlobals "tick" = some (some (.ref 304)) := Option.some.inj (congrArg (HD.gv 37 0) h)
  have co_tick : HD.codeAt K 304 "tick" = true := Option.some.inj (congrArg (HD.gb 37 0) h)
  have kp_tick : keepIn K (.ref 304) = true := Option.some.inj (congrArg (HD.gb 37 1) h)
  have fn_tick : HD.fnAt K 304 = some (HD.fn0 "tick" "tick" s_tick) := congrArg (HD.gf 37) h
  have a_post_again : nsIn K mainGlobals "post_again" = some (some (.ref 311)) := Option.some.inj (congrArg (HD.gv 38 0) h)
  have co_post_again : HD.codeAt K 311 "post_again" = true := Option.some.inj (congrArg (HD.gb 38 0) h)
  have kp_post_again : keepIn K (.ref 311) = true := Option.some.inj (congrArg (HD.gb 38 1) h)
  have fn_post_again : HD.fnAt K 311 = some (HD.fn0 "post_again" "post_again" s_post_again) := congrArg (HD.gf 38) h
  have a_post_confirmations : nsIn K mainGlobals "post_confirmations" = some (some (.ref 318)) := Option.some.inj (congrArg (HD.gv 39 0) h)
  have co_post_confirmations : HD.codeAt K 318 "post_confirmations" = true := Option.some.inj (congrArg (HD.gb 39 0) h)
  have kp_post_confirmations : keepIn K (.ref 318) = true := Option.some.inj (congrArg (HD.gb 39 1) h)
  have fn_post_confirmations : HD.fnAt K 318 = some (HD.fn0 "post_confirmations" "post_confirmations" s_post_confirmations) := congrArg (HD.gf 39) h
  have a_calm : nsIn K mainGlobals "calm" = some (some (.ref 325)) := Option.some.inj (congrArg (HD.gv 40 0) h)
  have co_calm : HD.codeAt K 325 "calm" = true := Option.some.inj (congrArg (HD.gb 40 0) h)
  have kp_calm : keepIn K (.ref 325) = true := Option.some.inj (congrArg (HD.gb 40 1) h)
  have fn_calm : HD.fnAt K 325 = some (HD.fn0 "calm" "calm" s_calm) := congrArg (HD.gf 40) h
  have a_Session_init : findIn K (.ref 384) "__init__" = some (some (.ref 381)) := Option.some.inj (congrArg (HD.gv 41 0) h)
  have i_Session_init : isFn K (.ref 381) = true := Option.some.inj (congrArg (HD.gb 41 0) h)
  have co_Session_init : HD.codeAt K 381 "Session.__init__" = true := Option.some.inj (congrArg (HD.gb 41 1) h)
  have kp_Session_init : keepIn K (.ref 381) = true := Option.some.inj (congrArg (HD.gb 41 2) h)
  have fn_Session_init : HD.fnAt K 381 = some (HD.fn0 "__init__" "Session.__init__" s_Session_init) := congrArg (HD.gf 41) h
  have a_write_call : nsIn K mainGlobals "write_call" = some (some (.ref 395)) := Option.some.inj (congrArg (HD.gv 42 0) h)
  have co_write_call : HD.codeAt K 395 "write_call" = true := Option.some.inj (congrArg (HD.gb 42 0) h)
  have kp_write_call : keepIn K (.ref 395) = true := Option.some.inj (congrArg (HD.gb 42 1) h)
  have fn_write_call : HD.fnAt K 395 = some (HD.fn0 "write_call" "write_call" s_write_call) := congrArg (HD.gf 42) h
  have a_clear_call : nsIn K mainGlobals "clear_call" = some (some (.ref 402)) := Option.some.inj (congrArg (HD.gv 43 0) h)
  have co_clear_call : HD.codeAt K 402 "clear_call" = true := Option.some.inj (congrArg (HD.gb 43 0) h)
  have kp_clear_call : keepIn K (.ref 402) = true := Option.some.inj (congrArg (HD.gb 43 1) h)
  have fn_clear_call : HD.fnAt K 402 = some (HD.fn0 "clear_call" "clear_call" s_clear_call) := congrArg (HD.gf 43) h
  have a_send_call : nsIn K mainGlobals "send_call" = some (some (.ref 409)) := Option.some.inj (congrArg (HD.gv 44 0) h)
  have co_send_call : HD.codeAt K 409 "send_call" = true := Option.some.inj (congrArg (HD.gb 44 0) h)
  have kp_send_call : keepIn K (.ref 409) = true := Option.some.inj (congrArg (HD.gb 44 1) h)
  have fn_send_call : HD.fnAt K 409 = some (HD.fn0 "send_call" "send_call" s_send_call) := congrArg (HD.gf 44) h
  have a_as_number : nsIn K mainGlobals "as_number" = some (some (.ref 416)) := Option.some.inj (congrArg (HD.gv 45 0) h)
  have co_as_number : HD.codeAt K 416 "as_number" = true := Option.some.inj (congrArg (HD.gb 45 0) h)
  have kp_as_number : keepIn K (.ref 416) = true := Option.some.inj (congrArg (HD.gb 45 1) h)
  have fn_as_number : HD.fnAt K 416 = some (HD.fn0 "as_number" "as_number" s_as_number) := congrArg (HD.gf 45) h
  have a_tell_tick : nsIn K mainGlobals "tell_tick" = some (some (.ref 423)) := Option.some.inj (congrArg (HD.gv 46 0) h)
  have co_tell_tick : HD.codeAt K 423 "tell_tick" = true := Option.some.inj (congrArg (HD.gb 46 0) h)
  have kp_tell_tick : keepIn K (.ref 423) = true := Option.some.inj (congrArg (HD.gb 46 1) h)
  have fn_tell_tick : HD.fnAt K 423 = some (HD.fn0 "tell_tick" "tell_tick" s_tell_tick) := congrArg (HD.gf 46) h
  have a_tick_call : nsIn K mainGlobals "tick_call" = some (some (.ref 430)) := Option.some.inj (congrArg (HD.gv 47 0) h)
  have co_tick_call : HD.codeAt K 430 "tick_call" = true := Option.some.inj (congrArg (HD.gb 47 0) h)
  have kp_tick_call : keepIn K (.ref 430) = true := Option.some.inj (congrArg (HD.gb 47 1) h)
  have fn_tick_call : HD.fnAt K 430 = some (HD.fn0 "tick_call" "tick_call" s_tick_call) := congrArg (HD.gf 47) h
  have a_deliver_call : nsIn K mainGlobals "deliver_call" = some (some (.ref 437)) := Option.some.inj (congrArg (HD.gv 48 0) h)
  have co_deliver_call : HD.codeAt K 437 "deliver_call" = true := Option.some.inj (congrArg (HD.gb 48 0) h)
  have kp_deliver_call : keepIn K (.ref 437) = true := Option.some.inj (congrArg (HD.gb 48 1) h)
  have fn_deliver_call : HD.fnAt K 437 = some (HD.fn0 "deliver_call" "deliver_call" s_deliver_call) := congrArg (HD.gf 48) h
  have a_lose_call : nsIn K mainGlobals "lose_call" = some (some (.ref 444)) := Option.some.inj (congrArg (HD.gv 49 0) h)
  have co_lose_call : HD.codeAt K 444 "lose_call" = true := Option.some.inj (congrArg (HD.gb 49 0) h)
  have kp_lose_call : keepIn K (.ref 444) = true := Option.some.inj (congrArg (HD.gb 49 1) h)
  have fn_lose_call : HD.fnAt K 444 = some (HD.fn0 "lose_call" "lose_call" s_lose_call) := congrArg (HD.gf 49) h
  have a_double_call : nsIn K mainGlobals "double_call" = some (some (.ref 451)) := Option.some.inj (congrArg (HD.gv 50 0) h)
  have co_double_call : HD.codeAt K 451 "double_call" = true := Option.some.inj (congrArg (HD.gb 50 0) h)
  have kp_double_call : keepIn K (.ref 451) = true := Option.some.inj (congrArg (HD.gb 50 1) h)
  have fn_double_call : HD.fnAt K 451 = some (HD.fn0 "double_call" "double_call" s_double_call) := congrArg (HD.gf 50) h
  have a_calm_call : nsIn K mainGlobals "calm_call" = some (some (.ref 458)) := Option.some.inj (congrArg (HD.gv 51 0) h)
  have co_calm_call : HD.codeAt K 458 "calm_call" = true := Option.some.inj (congrArg (HD.gb 51 0) h)
  have kp_calm_call : keepIn K (.ref 458) = true := Option.some.inj (congrArg (HD.gb 51 1) h)
  have fn_calm_call : HD.fnAt K 458 = some (HD.fn0 "calm_call" "calm_call" s_calm_call) := congrArg (HD.gf 51) h
  have a_party_call : nsIn K mainGlobals "party_call" = some (some (.ref 465)) := Option.some.inj (congrArg (HD.gv 52 0) h)
  have co_party_call : HD.codeAt K 465 "party_call" = true := Option.some.inj (congrArg (HD.gb 52 0) h)
  have kp_party_call : keepIn K (.ref 465) = true := Option.some.inj (congrArg (HD.gb 52 1) h)
  have fn_party_call : HD.fnAt K 465 = some (HD.fn0 "party_call" "party_call" s_party_call) := congrArg (HD.gf 52) h
  have a_house_call : nsIn K mainGlobals "house_call" = some (some (.ref 472)) := Option.some.inj (congrArg (HD.gv 53 0) h)
  have co_house_call : HD.codeAt K 472 "house_call" = true := Option.some.inj (congrArg (HD.gb 53 0) h)
  have kp_house_call : keepIn K (.ref 472) = true := Option.some.inj (congrArg (HD.gb 53 1) h)
  have fn_house_call : HD.fnAt K 472 = some (HD.fn0 "house_call" "house_call" s_house_call) := congrArg (HD.gf 53) h
  have a_draft_call : nsIn K mainGlobals "draft_call" = some (some (.ref 479)) := Option.some.inj (congrArg (HD.gv 54 0) h)
  have co_draft_call : HD.codeAt K 479 "draft_call" = true := Option.some.inj (congrArg (HD.gb 54 0) h)
  have kp_draft_call : keepIn K (.ref 479) = true := Option.some.inj (congrArg (HD.gb 54 1) h)
  have fn_draft_call : HD.fnAt K 479 = some (HD.fn0 "draft_call" "draft_call" s_draft_call) := congrArg (HD.gf 54) h
  have a_held_call : nsIn K mainGlobals "held_call" = some (some (.ref 486)) := Option.some.inj (congrArg (HD.gv 55 0) h)
  have co_held_call : HD.codeAt K 486 "held_call" = true := Option.some.inj (congrArg (HD.gb 55 0) h)
  have kp_held_call : keepIn K (.ref 486) = true := Option.some.inj (congrArg (HD.gb 55 1) h)
  have fn_held_call : HD.fnAt K 486 = some (HD.fn0 "held_call" "held_call" s_held_call) := congrArg (HD.gf 55) h
  have a_final_call : nsIn K mainGlobals "final_call" = some (some (.ref 493)) := Option.some.inj (congrArg (HD.gv 56 0) h)
  have co_final_call : HD.codeAt K 493 "final_call" = true := Option.some.inj (congrArg (HD.gb 56 0) h)
  have kp_final_call : keepIn K (.ref 493) = true := Option.some.inj (congrArg (HD.gb 56 1) h)
  have fn_final_call : HD.fnAt K 493 = some (HD.fn0 "final_call" "final_call" s_final_call) := congrArg (HD.gf 56) h
  have a_belief_call : nsIn K mainGlobals "belief_call" = some (some (.ref 500)) := Option.some.inj (congrArg (HD.gv 57 0) h)
  have co_belief_call : HD.codeAt K 500 "belief_call" = true := Option.some.inj (congrArg (HD.gb 57 0) h)
  have kp_belief_call : keepIn K (.ref 500) = true := Option.some.inj (congrArg (HD.gb 57 1) h)
  have fn_belief_call : HD.fnAt K 500 = some (HD.fn0 "belief_call" "belief_call" s_belief_call) := congrArg (HD.gf 57) h
  have a_flying_call : nsIn K mainGlobals "flying_call" = some (some (.ref 507)) := Option.some.inj (congrArg (HD.gv 58 0) h)
  have co_flying_call : HD.codeAt K 507 "flying_call" = true := Option.some.inj (congrArg (HD.gb 58 0) h)
  have kp_flying_call : keepIn K (.ref 507) = true := Option.some.inj (congrArg (HD.gb 58 1) h)
  have fn_flying_call : HD.fnAt K 507 = some (HD.fn0 "flying_call" "flying_call" s_flying_call) := congrArg (HD.gf 58) h
  have a_unmatched_call : nsIn K mainGlobals "unmatched_call" = some (some (.ref 514)) := Option.some.inj (congrArg (HD.gv 59 0) h)
  have co_unmatched_call : HD.codeAt K 514 "unmatched_call" = true := Option.some.inj (congrArg (HD.gb 59 0) h)
  have kp_unmatched_call : keepIn K (.ref 514) = true := Option.some.inj (congrArg (HD.gb 59 1) h)
  have fn_unmatched_call : HD.fnAt K 514 = some (HD.fn0 "unmatched_call" "unmatched_call" s_unmatched_call) := congrArg (HD.gf 59) h
  have a_now_call : nsIn K mainGlobals "now_call" = some (some (.ref 521)) := Option.some.inj (congrArg (HD.gv 60 0) h)
  have co_now_call : HD.codeAt K 521 "now_call" = true := Option.some.inj (congrArg (HD.gb 60 0) h)
  have kp_now_call : keepIn K (.ref 521) = true := Option.some.inj (congrArg (HD.gb 60 1) h)
  have fn_now_call : HD.fnAt K 521 = some (HD.fn0 "now_call" "now_call" s_now_call) := congrArg (HD.gf 60) h
  have a_total_call : nsIn K mainGlobals "total_call" = some (some (.ref 526)) := Option.some.inj (congrArg (HD.gv 61 0) h)
  have co_total_call : HD.codeAt K 526 "total_call" = true := Option.some.inj (congrArg (HD.gb 61 0) h)
  have kp_total_call : keepIn K (.ref 526) = true := Option.some.inj (congrArg (HD.gb 61 1) h)
  have fn_total_call : HD.fnAt K 526 = some (HD.fn0 "total_call" "total_call" s_total_call) := congrArg (HD.gf 61) h
  have a_width_of : nsIn K mainGlobals "width_of" = some (some (.ref 535)) := Option.some.inj (congrArg (HD.gv 62 0) h)
  have co_width_of : HD.codeAt K 535 "width_of" = true := Option.some.inj (congrArg (HD.gb 62 0) h)
  have kp_width_of : keepIn K (.ref 535) = true := Option.some.inj (congrArg (HD.gb 62 1) h)
  have fn_width_of : HD.fnAt K 535 = some (HD.fn0 "width_of" "width_of" s_width_of) := congrArg (HD.gf 62) h
  have a_in_ranges : nsIn K mainGlobals "in_ranges" = some (some (.ref 542)) := Option.some.inj (congrArg (HD.gv 63 0) h)
  have co_in_ranges : HD.codeAt K 542 "in_ranges" = true := Option.some.inj (congrArg (HD.gb 63 0) h)
  have kp_in_ranges : keepIn K (.ref 542) = true := Option.some.inj (congrArg (HD.gb 63 1) h)
  have fn_in_ranges : HD.fnAt K 542 = some (HD.fn0 "in_ranges" "in_ranges" s_in_ranges) := congrArg (HD.gf 63) h
  have a_answer_call : nsIn K mainGlobals "answer_call" = some (some (.ref 549)) := Option.some.inj (congrArg (HD.gv 64 0) h)
  have co_answer_call : HD.codeAt K 549 "answer_call" = true := Option.some.inj (congrArg (HD.gb 64 0) h)
  have kp_answer_call : keepIn K (.ref 549) = true := Option.some.inj (congrArg (HD.gb 64 1) h)
  have fn_answer_call : HD.fnAt K 549 = some (HD.fn0 "answer_call" "answer_call" s_answer_call) := congrArg (HD.gf 64) h
  have a_answers : nsIn K mainGlobals "answers" = some (some (.ref 556)) := Option.some.inj (congrArg (HD.gv 65 0) h)
  have co_answers : HD.codeAt K 556 "answers" = true := Option.some.inj (congrArg (HD.gb 65 0) h)
  have kp_answers : keepIn K (.ref 556) = true := Option.some.inj (congrArg (HD.gb 65 1) h)
  have fn_answers : HD.fnAt K 556 = some (HD.fn0 "answers" "answers" s_answers) := congrArg (HD.gf 65) h
  have g_MOST_MESSAGES : nsIn K mainGlobals "MOST_MESSAGES" = some (some (.int (40) 235)) := Option.some.inj (congrArg (HD.gv 66 0) h)
  have g_KIND_SHEET : nsIn K mainGlobals "KIND_SHEET" = some (some (.int (1) 237)) := Option.some.inj (congrArg (HD.gv 67 0) h)
  have g_KIND_HAVE : nsIn K mainGlobals "KIND_HAVE" = some (some (.int (2) 239)) := Option.some.inj (congrArg (HD.gv 68 0) h)
  have g_KIND_LATE : nsIn K mainGlobals "KIND_LATE" = some (some (.int (3) 241)) := Option.some.inj (congrArg (HD.gv 69 0) h)
  have g_KIND_MATCHED : nsIn K mainGlobals "KIND_MATCHED" = some (some (.int (4) 243)) := Option.some.inj (congrArg (HD.gv 70 0) h)
  have g_KIND_SEEN : nsIn K mainGlobals "KIND_SEEN" = some (some (.int (5) 245)) := Option.some.inj (congrArg (HD.gv 71 0) h)
  have g_ACCEPTED : nsIn K mainGlobals "ACCEPTED" = some (some (.int (0) 630)) := Option.some.inj (congrArg (HD.gv 72 0) h)
  have g_OUT_OF_RANGE : nsIn K mainGlobals "OUT_OF_RANGE" = some (some (.int (-1) 633)) := Option.some.inj (congrArg (HD.gv 73 0) h)
  have g_NOTHING_OPEN : nsIn K mainGlobals "NOTHING_OPEN" = some (some (.int (-2) 636)) := Option.some.inj (congrArg (HD.gv 74 0) h)
  have g_NO_SUCH_PARTY : nsIn K mainGlobals "NO_SUCH_PARTY" = some (some (.int (-3) 639)) := Option.some.inj (congrArg (HD.gv 75 0) h)
  have g_NO_SUCH_QUARTER : nsIn K mainGlobals "NO_SUCH_QUARTER" = some (some (.int (-4) 642)) := Option.some.inj (congrArg (HD.gv 76 0) h)
  have g_NO_MORE_VERSIONS : nsIn K mainGlobals "NO_MORE_VERSIONS" = some (some (.int (-5) 645)) := Option.some.inj (congrArg (HD.gv 77 0) h)
  have g_NO_SUCH_MESSAGE : nsIn K mainGlobals "NO_SUCH_MESSAGE" = some (some (.int (-6) 648)) := Option.some.inj (congrArg (HD.gv 78 0) h)
  have g_NET_IS_FULL : nsIn K mainGlobals "NET_IS_FULL" = some (some (.int (-7) 651)) := Option.some.inj (congrArg (HD.gv 79 0) h)
  have g_NOT_YET : nsIn K mainGlobals "NOT_YET" = some (some (.int (-8) 654)) := Option.some.inj (congrArg (HD.gv 80 0) h)
  have g_CALL_OPEN : nsIn K mainGlobals "CALL_OPEN" = some (some (.int (0) 656)) := Option.some.inj (congrArg (HD.gv 81 0) h)
  have g_LAST_VERSION : nsIn K mainGlobals "LAST_VERSION" = some (some (.int (50) 658)) := Option.some.inj (congrArg (HD.gv 82 0) h)
  have at_RANGES : nsIn K mainGlobals "RANGES" = some (some (.ref 326)) := Option.some.inj (congrArg (HD.gv 83 0) h)
  have tb_RANGES : tblOk K 326 tab_RANGES = true := Option.some.inj (congrArg (HD.gb 83 0) h)
  have at_PARTY_CALLS : nsIn K mainGlobals "PARTY_CALLS" = some (some (.ref 367)) := Option.some.inj (congrArg (HD.gv 84 0) h)
  have tb_PARTY_CALLS : tupOk K 367 tab_PARTY_CALLS = true := Option.some.inj (congrArg (HD.gb 84 0) h)
  have at_HANDLERS : nsIn K mainGlobals "HANDLERS" = some (some (.ref 527)) := Option.some.inj (congrArg (HD.gv 85 0) h)
  have tb_HANDLERS : hndOk K 527 [(1, 395), (2, 402), (3, 409), (4, 430), (5, 437), (6, 444), (7, 451), (8, 458), (9, 465), (10, 472), (11, 479), (12, 486), (13, 493), (14, 500), (15, 507), (16, 514), (17, 521), (18, 526)] = true := Option.some.inj (congrArg (HD.gb 85 0) h)
  have b_len : nsIn K mainGlobals "len" = some none := Option.some.inj (congrArg (HD.gv 86 0) h)
  have b_min : nsIn K mainGlobals "min" = some none := Option.some.inj (congrArg (HD.gv 87 0) h)
  have b_max : nsIn K mainGlobals "max" = some none := Option.some.inj (congrArg (HD.gv 88 0) h)
  have b_dict : nsIn K mainGlobals "dict" = some none := Option.some.inj (congrArg (HD.gv 89 0) h)
  have b_range : nsIn K mainGlobals "range" = some none := Option.some.inj (congrArg (HD.gv 90 0) h)
  have b_zip : nsIn K mainGlobals "zip" = some none := Option.some.inj (congrArg (HD.gv 91 0) h)
  have b_sorted : nsIn K mainGlobals "sorted" = some none := Option.some.inj (congrArg (HD.gv 92 0) h)
  have b_sum : nsIn K mainGlobals "sum" = some none := Option.some.inj (congrArg (HD.gv 93 0) h)
  have ts_RANGES : (326 == sysModules) = false := by decide
  have ts_PARTY_CALLS : (367 == sysModules) = false := by decide
  have ts_HANDLERS : (527 == sysModules) = false := by decide
  have e := hfa.symm.trans (PySem.W.mg_of X G a_answers)
  have e2 : 556 = fa := by cases e; rfl
  subst e2
  obtain ⟨d_write_amount, F_write_amount, B_write_amount, S_write_amount⟩ := (FnE.ofAt fn_write_amount co_write_amount kp_write_amount).fn (fun _ _ _ _ _ _ => bd_write_amount)
  obtain ⟨d_read_amount, F_read_amount, B_read_amount, S_read_amount⟩ := (FnE.ofAt fn_read_amount co_read_amount kp_read_amount).fn (fun _ _ _ _ _ _ => bd_read_amount)
  obtain ⟨d_count_rows, F_count_rows, B_count_rows, S_count_rows⟩ := (FnE.ofAt fn_count_rows co_count_rows kp_count_rows).fn (fun _ _ _ _ _ _ => bd_count_rows)
  obtain ⟨d_list_rows, F_list_rows, B_list_rows, S_list_rows⟩ := (FnE.ofAt fn_list_rows co_list_rows kp_list_rows).fn (fun _ _ _ _ _ _ => bd_list_rows)
  obtain ⟨d_match_amounts, F_match_amounts, B_match_amounts, S_match_amounts⟩ := (FnE.ofAt fn_match_amounts co_match_amounts kp_match_amounts).fn (fun _ _ _ _ _ _ => bd_match_amounts)
  obtain ⟨d_Message_init, F_Message_init, B_Message_init, S_Message_init⟩ := (FnE.ofAt fn_Message_init co_Message_init kp_Message_init).fn (fun _ _ _ _ _ _ => bd_Message_init)
  obtain ⟨d_Net_init, F_Net_init, B_Net_init, S_Net_init⟩ := (FnE.ofAt fn_Net_init co_Net_init kp_Net_init).fn (fun _ _ _ _ _ _ => bd_Net_init)
  obtain ⟨d_Net_under_way, F_Net_under_way, B_Net_under_way, S_Net_under_way⟩ := (FnE.ofAt fn_Net_under_way co_Net_under_way kp_Net_under_way).fn (fun _ _ _ _ _ _ => bd_Net_under_way)
  obtain ⟨d_Net_full, F_Net_full, B_Net_full, S_Net_full⟩ := (FnE.ofAt fn_Net_full co_Net_full kp_Net_full).fn (fun _ _ _ _ _ _ => bd_Net_full)
  obtain ⟨d_Net_post, F_Net_post, B_Net_post, S_Net_post⟩ := (FnE.ofAt fn_Net_post co_Net_post kp_Net_post).fn (fun _ _ _ _ _ _ => bd_Net_post)
  obtain ⟨d_Net_take, F_Net_take, B_Net_take, S_Net_take⟩ := (FnE.ofAt fn_Net_take co_Net_take kp_Net_take).fn (fun _ _ _ _ _ _ => bd_Net_take)
  obtain ⟨d_Net_double, F_Net_double, B_Net_double, S_Net_double⟩ := (FnE.ofAt fn_Net_double co_Net_double kp_Net_double).fn (fun _ _ _ _ _ _ => bd_Net_double)
  obtain ⟨d_describe, F_describe, B_describe, S_describe⟩ := (FnE.ofAt fn_describe co_describe kp_describe).fn (fun _ _ _ _ _ _ => bd_describe)
  obtain ⟨d_describe_all, F_describe_all, B_describe_all, S_describe_all⟩ := (FnE.ofAt fn_describe_all co_describe_all kp_describe_all).fn (fun _ _ _ _ _ _ => bd_describe_all)
  obtain ⟨d_Party_init, F_Party_init, B_Party_init, S_Party_init⟩ := (FnE.ofAt fn_Party_init co_Party_init kp_Party_init).fn (fun _ _ _ _ _ _ => bd_Party_init)
  obtain ⟨d_Account_init, F_Account_init, B_Account_init, S_Account_init⟩ := (FnE.ofAt fn_Account_init co_Account_init kp_Account_init).fn (fun _ _ _ _ _ _ => bd_Account_init)
  obtain ⟨d_Market_init, F_Market_init, B_Market_init, S_Market_init⟩ := (FnE.ofAt fn_Market_init co_Market_init kp_Market_init).fn (fun _ _ _ _ _ _ => bd_Market_init)
  obtain ⟨d_Market_party_of, F_Market_party_of, B_Market_party_of, S_Market_party_of⟩ := (FnE.ofAt fn_Market_party_of co_Market_party_of kp_Market_party_of).fn (fun _ _ _ _ _ _ => bd_Market_party_of)
  obtain ⟨d_Market_account_of, F_Market_account_of, B_Market_account_of, S_Market_account_of⟩ := (FnE.ofAt fn_Market_account_of co_Market_account_of kp_Market_account_of).fn (fun _ _ _ _ _ _ => bd_Market_account_of)
  obtain ⟨d_held_amount, F_held_amount, B_held_amount, S_held_amount⟩ := (FnE.ofAt fn_held_amount co_held_amount kp_held_amount).fn (fun _ _ _ _ _ _ => bd_held_amount)
  obtain ⟨d_matched_sheet, F_matched_sheet, B_matched_sheet, S_matched_sheet⟩ := (FnE.ofAt fn_matched_sheet co_matched_sheet kp_matched_sheet).fn (fun _ _ _ _ _ _ => bd_matched_sheet)
  obtain ⟨d_matched_sum, F_matched_sum, B_matched_sum, S_matched_sum⟩ := (FnE.ofAt fn_matched_sum co_matched_sum kp_matched_sum).fn (fun _ _ _ _ _ _ => bd_matched_sum)
  obtain ⟨d_list_unmatched, F_list_unmatched, B_list_unmatched, S_list_unmatched⟩ := (FnE.ofAt fn_list_unmatched co_list_unmatched kp_list_unmatched).fn (fun _ _ _ _ _ _ => bd_list_unmatched)
  obtain ⟨d_post_sent_sheet, F_post_sent_sheet, B_post_sent_sheet, S_post_sent_sheet⟩ := (FnE.ofAt fn_post_sent_sheet co_post_sent_sheet kp_post_sent_sheet).fn (fun _ _ _ _ _ _ => bd_post_sent_sheet)
  obtain ⟨d_send, F_send, B_send, S_send⟩ := (FnE.ofAt fn_send co_send kp_send).fn (fun _ _ _ _ _ _ => bd_send)
  obtain ⟨d_arrive, F_arrive, B_arrive, S_arrive⟩ := (FnE.ofAt fn_arrive co_arrive kp_arrive).fn (fun _ _ _ _ _ _ => bd_arrive)
  obtain ⟨d_receive_sheet, F_receive_sheet, B_receive_sheet, S_receive_sheet⟩ := (FnE.ofAt fn_receive_sheet co_receive_sheet kp_receive_sheet).fn (fun _ _ _ _ _ _ => bd_receive_sheet)
  obtain ⟨d_receive_have, F_receive_have, B_receive_have, S_receive_have⟩ := (FnE.ofAt fn_receive_have co_receive_have kp_receive_have).fn (fun _ _ _ _ _ _ => bd_receive_have)
  obtain ⟨d_receive_late, F_receive_late, B_receive_late, S_receive_late⟩ := (FnE.ofAt fn_receive_late co_receive_late kp_receive_late).fn (fun _ _ _ _ _ _ => bd_receive_late)
  obtain ⟨d_receive_matched, F_receive_matched, B_receive_matched, S_receive_matched⟩ := (FnE.ofAt fn_receive_matched co_receive_matched kp_receive_matched).fn (fun _ _ _ _ _ _ => bd_receive_matched)
  obtain ⟨d_receive_seen, F_receive_seen, B_receive_seen, S_receive_seen⟩ := (FnE.ofAt fn_receive_seen co_receive_seen kp_receive_seen).fn (fun _ _ _ _ _ _ => bd_receive_seen)
  obtain ⟨d_tick, F_tick, B_tick, S_tick⟩ := (FnE.ofAt fn_tick co_tick kp_tick).fn (fun _ _ _ _ _ _ => bd_tick)
  obtain ⟨d_post_again, F_post_again, B_post_again, S_post_again⟩ := (FnE.ofAt fn_post_again co_post_again kp_post_again).fn (fun _ _ _ _ _ _ => bd_post_again)
  obtain ⟨d_post_confirmations, F_post_confirmations, B_post_confirmations, S_post_confirmations⟩ := (FnE.ofAt fn_post_confirmations co_post_confirmations kp_post_confirmations).fn (fun _ _ _ _ _ _ => bd_post_confirmations)
  obtain ⟨d_calm, F_calm, B_calm, S_calm⟩ := (FnE.ofAt fn_calm co_calm kp_calm).fn (fun _ _ _ _ _ _ => bd_calm)
  obtain ⟨d_Session_init, F_Session_init, B_Session_init, S_Session_init⟩ := (FnE.ofAt fn_Session_init co_Session_init kp_Session_init).fn (fun _ _ _ _ _ _ => bd_Session_init)
  obtain ⟨d_write_call, F_write_call, B_write_call, S_write_call⟩ := (FnE.ofAt fn_write_call co_write_call kp_write_call).fn (fun _ _ _ _ _ _ => bd_write_call)
  obtain ⟨d_clear_call, F_clear_call, B_clear_call, S_clear_call⟩ := (FnE.ofAt fn_clear_call co_clear_call kp_clear_call).fn (fun _ _ _ _ _ _ => bd_clear_call)
  obtain ⟨d_send_call, F_send_call, B_send_call, S_send_call⟩ := (FnE.ofAt fn_send_call co_send_call kp_send_call).fn (fun _ _ _ _ _ _ => bd_send_call)
  obtain ⟨d_as_number, F_as_number, B_as_number, S_as_number⟩ := (FnE.ofAt fn_as_number co_as_number kp_as_number).fn (fun _ _ _ _ _ _ => bd_as_number)
  obtain ⟨d_tell_tick, F_tell_tick, B_tell_tick, S_tell_tick⟩ := (FnE.ofAt fn_tell_tick co_tell_tick kp_tell_tick).fn (fun _ _ _ _ _ _ => bd_tell_tick)
  obtain ⟨d_tick_call, F_tick_call, B_tick_call, S_tick_call⟩ := (FnE.ofAt fn_tick_call co_tick_call kp_tick_call).fn (fun _ _ _ _ _ _ => bd_tick_call)
  obtain ⟨d_deliver_call, F_deliver_call, B_deliver_call, S_deliver_call⟩ := (FnE.ofAt fn_deliver_call co_deliver_call kp_deliver_call).fn (fun _ _ _ _ _ _ => bd_deliver_call)
  obtain ⟨d_lose_call, F_lose_call, B_lose_call, S_lose_call⟩ := (FnE.ofAt fn_lose_call co_lose_call kp_lose_call).fn (fun _ _ _ _ _ _ => bd_lose_call)
  obtain ⟨d_double_call, F_double_call, B_double_call, S_double_call⟩ := (FnE.ofAt fn_double_call co_double_call kp_double_call).fn (fun _ _ _ _ _ _ => bd_double_call)
  obtain ⟨d_calm_call, F_calm_call, B_calm_call, S_calm_call⟩ := (FnE.ofAt fn_calm_call co_calm_call kp_calm_call).fn (fun _ _ _ _ _ _ => bd_calm_call)
  obtain ⟨d_party_call, F_party_call, B_party_call, S_party_call⟩ := (FnE.ofAt fn_party_call co_party_call kp_party_call).fn (fun _ _ _ _ _ _ => bd_party_call)
  obtain ⟨d_house_call, F_house_call, B_house_call, S_house_call⟩ := (FnE.ofAt fn_house_call co_house_call kp_house_call).fn (fun _ _ _ _ _ _ => bd_house_call)
  obtain ⟨d_draft_call, F_draft_call, B_draft_call, S_draft_call⟩ := (FnE.ofAt fn_draft_call co_draft_call kp_draft_call).fn (fun _ _ _ _ _ _ => bd_draft_call)
  obtain ⟨d_held_call, F_held_call, B_held_call, S_held_call⟩ := (FnE.ofAt fn_held_call co_held_call kp_held_call).fn (fun _ _ _ _ _ _ => bd_held_call)
  obtain ⟨d_final_call, F_final_call, B_final_call, S_final_call⟩ := (FnE.ofAt fn_final_call co_final_call kp_final_call).fn (fun _ _ _ _ _ _ => bd_final_call)
  obtain ⟨d_belief_call, F_belief_call, B_belief_call, S_belief_call⟩ := (FnE.ofAt fn_belief_call co_belief_call kp_belief_call).fn (fun _ _ _ _ _ _ => bd_belief_call)
  obtain ⟨d_flying_call, F_flying_call, B_flying_call, S_flying_call⟩ := (FnE.ofAt fn_flying_call co_flying_call kp_flying_call).fn (fun _ _ _ _ _ _ => bd_flying_call)
  obtain ⟨d_unmatched_call, F_unmatched_call, B_unmatched_call, S_unmatched_call⟩ := (FnE.ofAt fn_unmatched_call co_unmatched_call kp_unmatched_call).fn (fun _ _ _ _ _ _ => bd_unmatched_call)
  obtain ⟨d_now_call, F_now_call, B_now_call, S_now_call⟩ := (FnE.ofAt fn_now_call co_now_call kp_now_call).fn (fun _ _ _ _ _ _ => bd_now_call)
  obtain ⟨d_total_call, F_total_call, B_total_call, S_total_call⟩ := (FnE.ofAt fn_total_call co_total_call kp_total_call).fn (fun _ _ _ _ _ _ => bd_total_call)
  obtain ⟨d_width_of, F_width_of, B_width_of, S_width_of⟩ := (FnE.ofAt fn_width_of co_width_of kp_width_of).fn (fun _ _ _ _ _ _ => bd_width_of)
  obtain ⟨d_in_ranges, F_in_ranges, B_in_ranges, S_in_ranges⟩ := (FnE.ofAt fn_in_ranges co_in_ranges kp_in_ranges).fn (fun _ _ _ _ _ _ => bd_in_ranges)
  obtain ⟨d_answer_call, F_answer_call, B_answer_call, S_answer_call⟩ := (FnE.ofAt fn_answer_call co_answer_call kp_answer_call).fn (fun _ _ _ _ _ _ => bd_answer_call)
  obtain ⟨d_answers, F_answers, B_answers, S_answers⟩ := (FnE.ofAt fn_answers co_answers kp_answers).fn (fun _ _ _ _ _ _ => bd_answers)
  have T : Txt K mg { toAdr := { cMsg := 66, cNet := 122, cPty := 157, cAcc := 178, cMkt := 211, cSes := 384 }, f_write_amount := 21, d_write_amount := d_write_amount, f_read_amount := 28, d_read_amount := d_read_amount, f_count_rows := 35, d_count_rows := d_count_rows, f_list_rows := 42, d_list_rows := d_list_rows, f_match_amounts := 49, d_match_amounts := d_match_amounts, f_Message_init := 63, d_Message_init := d_Message_init, f_Net_init := 84, d_Net_init := d_Net_init, f_Net_under_way := 91, d_Net_under_way := d_Net_under_way, f_Net_full := 98, d_Net_full := d_Net_full, f_Net_post := 105, d_Net_post := d_Net_post, f_Net_take := 112, d_Net_take := d_Net_take, f_Net_double := 119, d_Net_double := d_Net_double, f_describe := 133, d_describe := d_describe, f_describe_all := 140, d_describe_all := d_describe_all, f_Party_init := 154, d_Party_init := d_Party_init, f_Account_init := 175, d_Account_init := d_Account_init, f_Market_init := 194, d_Market_init := d_Market_init, f_Market_party_of := 201, d_Market_party_of := d_Market_party_of, f_Market_account_of := 208, d_Market_account_of := d_Market_account_of, f_held_amount := 222, d_held_amount := d_held_amount, f_matched_sheet := 229, d_matched_sheet := d_matched_sheet, f_matched_sum := 234, d_matched_sum := d_matched_sum, f_list_unmatched := 241, d_list_unmatched := d_list_unmatched, f_post_sent_sheet := 248, d_post_sent_sheet := d_post_sent_sheet, f_send := 255, d_send := d_send, f_arrive := 262, d_arrive := d_arrive, f_receive_sheet := 269, d_receive_sheet := d_receive_sheet, f_receive_have := 276, d_receive_have := d_receive_have, f_receive_late := 283, d_receive_late := d_receive_late, f_receive_matched := 290, d_receive_matched := d_receive_matched, f_receive_seen := 297, d_receive_seen := d_receive_seen, f_tick := 304, d_tick := d_tick, f_post_again := 311, d_post_again := d_post_again, f_post_confirmations := 318, d_post_confirmations := d_post_confirmations, f_calm := 325, d_calm := d_calm, f_Session_init := 381, d_Session_init := d_Session_init, f_write_call := 395, d_write_call := d_write_call, f_clear_call := 402, d_clear_call := d_clear_call, f_send_call := 409, d_send_call := d_send_call, f_as_number := 416, d_as_number := d_as_number, f_tell_tick := 423, d_tell_tick := d_tell_tick, f_tick_call := 430, d_tick_call := d_tick_call, f_deliver_call := 437, d_deliver_call := d_deliver_call, f_lose_call := 444, d_lose_call := d_lose_call, f_double_call := 451, d_double_call := d_double_call, f_calm_call := 458, d_calm_call := d_calm_call, f_party_call := 465, d_party_call := d_party_call, f_house_call := 472, d_house_call := d_house_call, f_draft_call := 479, d_draft_call := d_draft_call, f_held_call := 486, d_held_call := d_held_call, f_final_call := 493, d_final_call := d_final_call, f_belief_call := 500, d_belief_call := d_belief_call, f_flying_call := 507, d_flying_call := d_flying_call, f_unmatched_call := 514, d_unmatched_call := d_unmatched_call, f_now_call := 521, d_now_call := d_now_call, f_total_call := 526, d_total_call := d_total_call, f_width_of := 535, d_width_of := d_width_of, f_in_ranges := 542, d_in_ranges := d_in_ranges, f_answer_call := 549, d_answer_call := d_answer_call, f_answers := 556, d_answers := d_answers, t_RANGES := 326, t_PARTY_CALLS := 367, t_HANDLERS := 527 } := {
    write_amount := ⟨F_write_amount, B_write_amount, PySem.W.mg_of X G a_write_amount⟩
    read_amount := ⟨F_read_amount, B_read_amount, PySem.W.mg_of X G a_read_amount⟩
    count_rows := ⟨F_count_rows, B_count_rows, PySem.W.mg_of X G a_count_rows⟩
    list_rows := ⟨F_list_rows, B_list_rows, PySem.W.mg_of X G a_list_rows⟩
    match_amounts := ⟨F_match_amounts, B_match_amounts, PySem.W.mg_of X G a_match_amounts⟩
    Message_init := ⟨F_Message_init, B_Message_init, ⟨mk_Message, a_Message_init, i_Message_init, kc_Message⟩⟩
    Net_init := ⟨F_Net_init, B_Net_init, ⟨mk_Net, a_Net_init, i_Net_init, kc_Net⟩⟩
    Net_under_way := ⟨F_Net_under_way, B_Net_under_way, ⟨a_Net_under_way, i_Net_under_way, F_Net_under_way.kp⟩⟩
    Net_full := ⟨F_Net_full, B_Net_full, ⟨a_Net_full, i_Net_full, F_Net_full.kp⟩⟩
    Net_post := ⟨F_Net_post, B_Net_post, ⟨a_Net_post, i_Net_post, F_Net_post.kp⟩⟩
    Net_take := ⟨F_Net_take, B_Net_take, ⟨a_Net_take, i_Net_take, F_Net_take.kp⟩⟩
    Net_double := ⟨F_Net_double, B_Net_double, ⟨a_Net_double, i_Net_double, F_Net_double.kp⟩⟩
    describe := ⟨F_describe, B_describe, PySem.W.mg_of X G a_describe⟩
    describe_all := ⟨F_describe_all, B_describe_all, PySem.W.mg_of X G a_describe_all⟩
    Party_init := ⟨F_Party_init, B_Party_init, ⟨mk_Party, a_Party_init, i_Party_init, kc_Party⟩⟩
    Account_init := ⟨F_Account_init, B_Account_init, ⟨mk_Account, a_Account_init, i_Account_init, kc_Account⟩⟩
    Market_init := ⟨F_Market_init, B_Market_init, ⟨mk_Market, a_Market_init, i_Market_init, kc_Market⟩⟩
    Market_party_of := ⟨F_Market_party_of, B_Market_party_of, ⟨a_Market_party_of, i_Market_party_of, F_Market_party_of.kp⟩⟩
    Market_account_of := ⟨F_Market_account_of, B_Market_account_of, ⟨a_Market_account_of, i_Market_account_of, F_Market_account_of.kp⟩⟩
    held_amount := ⟨F_held_amount, B_held_amount, PySem.W.mg_of X G a_held_amount⟩
    matched_sheet := ⟨F_matched_sheet, B_matched_sheet, PySem.W.mg_of X G a_matched_sheet⟩
    matched_sum := ⟨F_matched_sum, B_matched_sum, PySem.W.mg_of X G a_matched_sum⟩
    list_unmatched := ⟨F_list_unmatched, B_list_unmatched, PySem.W.mg_of X G a_list_unmatched⟩
    post_sent_sheet := ⟨F_post_sent_sheet, B_post_sent_sheet, PySem.W.mg_of X G a_post_sent_sheet⟩
    send := ⟨F_send, B_send, PySem.W.mg_of X G a_send⟩
    arrive := ⟨F_arrive, B_arrive, PySem.W.mg_of X G a_arrive⟩
    receive_sheet := ⟨F_receive_sheet, B_receive_sheet, PySem.W.mg_of X G a_receive_sheet⟩
    receive_have := ⟨F_receive_have, B_receive_have, PySem.W.mg_of X G a_receive_have⟩
    receive_late := ⟨F_receive_late, B_receive_late, PySem.W.mg_of X G a_receive_late⟩
    receive_matched := ⟨F_receive_matched, B_receive_matched, PySem.W.mg_of X G a_receive_matched⟩
    receive_seen := ⟨F_receive_seen, B_receive_seen, PySem.W.mg_of X G a_receive_seen⟩
    tick := ⟨F_tick, B_tick, PySem.W.mg_of X G a_tick⟩
    post_again := ⟨F_post_again, B_post_again, PySem.W.mg_of X G a_post_again⟩
    post_confirmations := ⟨F_post_confirmations, B_post_confirmations, PySem.W.mg_of X G a_post_confirmations⟩
    calm := ⟨F_calm, B_calm, PySem.W.mg_of X G a_calm⟩
    Session_init := ⟨F_Session_init, B_Session_init, ⟨mk_Session, a_Session_init, i_Session_init, kc_Session⟩⟩
    write_call := ⟨F_write_call, B_write_call, PySem.W.mg_of X G a_write_call⟩
    clear_call := ⟨F_clear_call, B_clear_call, PySem.W.mg_of X G a_clear_call⟩
    send_call := ⟨F_send_call, B_send_call, PySem.W.mg_of X G a_send_call⟩
    as_number := ⟨F_as_number, B_as_number, PySem.W.mg_of X G a_as_number⟩
    tell_tick := ⟨F_tell_tick, B_tell_tick, PySem.W.mg_of X G a_tell_tick⟩
    tick_call := ⟨F_tick_call, B_tick_call, PySem.W.mg_of X G a_tick_call⟩
    deliver_call := ⟨F_deliver_call, B_deliver_call, PySem.W.mg_of X G a_deliver_call⟩
    lose_call := ⟨F_lose_call, B_lose_call, PySem.W.mg_of X G a_lose_call⟩
    double_call := ⟨F_double_call, B_double_call, PySem.W.mg_of X G a_double_call⟩
    calm_call := ⟨F_calm_call, B_calm_call, PySem.W.mg_of X G a_calm_call⟩
    party_call := ⟨F_party_call, B_party_call, PySem.W.mg_of X G a_party_call⟩
    house_call := ⟨F_house_call, B_house_call, PySem.W.mg_of X G a_house_call⟩
    draft_call := ⟨F_draft_call, B_draft_call, PySem.W.mg_of X G a_draft_call⟩
    held_call := ⟨F_held_call, B_held_call, PySem.W.mg_of X G a_held_call⟩
    final_call := ⟨F_final_call, B_final_call, PySem.W.mg_of X G a_final_call⟩
    belief_call := ⟨F_belief_call, B_belief_call, PySem.W.mg_of X G a_belief_call⟩
    flying_call := ⟨F_flying_call, B_flying_call, PySem.W.mg_of X G a_flying_call⟩
    unmatched_call := ⟨F_unmatched_call, B_unmatched_call, PySem.W.mg_of X G a_unmatched_call⟩
    now_call := ⟨F_now_call, B_now_call, PySem.W.mg_of X G a_now_call⟩
    total_call := ⟨F_total_call, B_total_call, PySem.W.mg_of X G a_total_call⟩
    width_of := ⟨F_width_of, B_width_of, PySem.W.mg_of X G a_width_of⟩
    in_ranges := ⟨F_in_ranges, B_in_ranges, PySem.W.mg_of X G a_in_ranges⟩
    answer_call := ⟨F_answer_call, B_answer_call, PySem.W.mg_of X G a_answer_call⟩
    answers := ⟨F_answers, B_answers, PySem.W.mg_of X G a_answers⟩
    cl_Message := ⟨pg_Message, hd_Message, po_Message, sa_Message⟩
    mg_Message := PySem.W.mg_of X G aC_Message
    na_Message_kind := no_Message_kind
    na_Message_party := no_Message_party
    na_Message_version := no_Message_version
    na_Message_sheet := no_Message_sheet
    cl_Net := ⟨pg_Net, hd_Net, po_Net, sa_Net⟩
    mg_Net := PySem.W.mg_of X G aC_Net
    na_Net_messages := no_Net_messages
    cl_Party := ⟨pg_Party, hd_Party, po_Party, sa_Party⟩
    mg_Party := PySem.W.mg_of X G aC_Party
    na_Party_draft := no_Party_draft
    na_Party_sent := no_Party_sent
    na_Party_version := no_Party_version
    na_Party_acked := no_Party_acked
    na_Party_waits := no_Party_waits
    na_Party_too_late := no_Party_too_late
    na_Party_belief := no_Party_belief
    cl_Account := ⟨pg_Account, hd_Account, po_Account, sa_Account⟩
    mg_Account := PySem.W.mg_of X G aC_Account
    na_Account_version := no_Account_version
    na_Account_sheet := no_Account_sheet
    na_Account_seen := no_Account_seen
    cl_Market := ⟨pg_Market, hd_Market, po_Market, sa_Market⟩
    mg_Market := PySem.W.mg_of X G aC_Market
    na_Market_party_count := no_Market_party_count
    na_Market_quarter_count := no_Market_quarter_count
    na_Market_gate := no_Market_gate
    na_Market_time := no_Market_time
    na_Market_closed := no_Market_closed
    na_Market_parties := no_Market_parties
    na_Market_accounts := no_Market_accounts
    na_Market_net := no_Market_net
    cl_Session := ⟨pg_Session, hd_Session, po_Session, sa_Session⟩
    mg_Session := PySem.W.mg_of X G aC_Session
    na_Session_market := no_Session_market
    c_MOST_MESSAGES := ⟨_, PySem.W.mg_of X G g_MOST_MESSAGES⟩
    c_KIND_SHEET := ⟨_, PySem.W.mg_of X G g_KIND_SHEET⟩
    c_KIND_HAVE := ⟨_, PySem.W.mg_of X G g_KIND_HAVE⟩
    c_KIND_LATE := ⟨_, PySem.W.mg_of X G g_KIND_LATE⟩
    c_KIND_MATCHED := ⟨_, PySem.W.mg_of X G g_KIND_MATCHED⟩
    c_KIND_SEEN := ⟨_, PySem.W.mg_of X G g_KIND_SEEN⟩
    c_ACCEPTED := ⟨_, PySem.W.mg_of X G g_ACCEPTED⟩
    c_OUT_OF_RANGE := ⟨_, PySem.W.mg_of X G g_OUT_OF_RANGE⟩
    c_NOTHING_OPEN := ⟨_, PySem.W.mg_of X G g_NOTHING_OPEN⟩
    c_NO_SUCH_PARTY := ⟨_, PySem.W.mg_of X G g_NO_SUCH_PARTY⟩
    c_NO_SUCH_QUARTER := ⟨_, PySem.W.mg_of X G g_NO_SUCH_QUARTER⟩
    c_NO_MORE_VERSIONS := ⟨_, PySem.W.mg_of X G g_NO_MORE_VERSIONS⟩
    c_NO_SUCH_MESSAGE := ⟨_, PySem.W.mg_of X G g_NO_SUCH_MESSAGE⟩
    c_NET_IS_FULL := ⟨_, PySem.W.mg_of X G g_NET_IS_FULL⟩
    c_NOT_YET := ⟨_, PySem.W.mg_of X G g_NOT_YET⟩
    c_CALL_OPEN := ⟨_, PySem.W.mg_of X G g_CALL_OPEN⟩
    c_LAST_VERSION := ⟨_, PySem.W.mg_of X G g_LAST_VERSION⟩
    mg_RANGES := PySem.W.mg_of X G at_RANGES
    ts_RANGES := ts_RANGES
    tb_RANGES := tb_RANGES
    mg_PARTY_CALLS := PySem.W.mg_of X G at_PARTY_CALLS
    ts_PARTY_CALLS := ts_PARTY_CALLS
    tb_PARTY_CALLS := tb_PARTY_CALLS
    mg_HANDLERS := PySem.W.mg_of X G at_HANDLERS
    ts_HANDLERS := ts_HANDLERS
    tb_HANDLERS := tb_HANDLERS
    b_len := PySem.W.mg_none_of X G b_len
    b_min := PySem.W.mg_none_of X G b_min
    b_max := PySem.W.mg_none_of X G b_max
    b_dict := PySem.W.mg_none_of X G b_dict
    b_range := PySem.W.mg_none_of X G b_range
    b_zip := PySem.W.mg_none_of X G b_zip
    b_sorted := PySem.W.mg_none_of X G b_sorted
    b_sum := PySem.W.mg_none_of X G b_sum }
  exact ⟨d_answers, S_answers, fun base _ _ => ok_answers T⟩
end
end G
end
section
set_option maxRecDepth 100000
set_option linter.all false
namespace G
open PySem PySem.W
def t0 : Obj := ⟨.type "tuple", .none, .seq #[] 0, #[]⟩
def f0 : Obj := ⟨.none, .none, .fields #[], #[]⟩
def fd (n q : Str) (s : Stmt) : Obj := ⟨.none, .none, .func ⟨n, q, L2.defArgs s, .stmts (L2.defBody s), L2.defScope s, 0, [], .none, .none, .none, .none, .none, .none, .none, 0⟩, #[]⟩
def fo (n q : Str) (s : Stmt) (m : Str) (t c : Nat) : Obj := ⟨.type "function", .none, .func ⟨n, q, L2.defArgs s, .stmts (L2.defBody s), L2.defScope s, 3, [], .none, .none, .none, .str m t, .none, .ref c, .none, 0⟩, #[]⟩
def co (n q : Str) (a l c r t : Nat) : Obj := ⟨.type "code", .none, .fields #[.str n a, .str q (a + 1), .str "/claim/cut.py" (a + 2), .int l 0, .int c 0, .int 0 0, .int 0 0, .int 3 0, .ref r, .bool true, .int 181 0, .ref (r + 1), .none, .ref (r + 2), .ref (r + 3), .ref (r + 4), .int t 0, .int l 0, .str "/claim/cut.py" (t + 1)], #[]⟩
def tsL : Nat → List Str → List Value
  | _, [] => []
  | k, x :: l => .str x k :: tsL (k + 1) l
def ts (k : Nat) (l : List Str) : Obj := ⟨.type "tuple", .none, .seq ⟨tsL k l⟩ 0, #[]⟩
def en (P : Params) (x : Str) (k : Nat) (v : Value) : DictEntry := ⟨PySem.PyData.keyHash P x, .str x k, v⟩
noncomputable def oF0 (p : Program) (P : Params) : List Obj := [
PySem.W.boot_o_0 P,
PySem.W.boot_o_1 P,
PySem.W.boot_o_2 P,
⟨.type "dict", .none, .dict #[en P "__name__" 165 (.str "gatehouse.nominations" 1015), en P "__doc__" 166 .none, en P "__package__" 167 .none, en P "__loader__" 168 (.builtin "__main__.__loader__#opaque"), en P "__spec__" 169 .none, en P "__annotations__" 170 (.ref 6), en P "__builtins__" 171 (.ref 4), en P "__file__" 173 (.str "/claim/cut.py" 172), en P "__cached__" 174 .none, en P "write_amount" 198 (.ref 21), en P "read_amount" 207 (.ref 28), en P "count_rows" 214 (.ref 35), en P "list_rows" 224 (.ref 42), en P "match_amounts" 232 (.ref 49), en P "MOST_MESSAGES" 236 (.int 40 235), en P "KIND_SHEET" 238 (.int 1 237), en P "KIND_HAVE" 240 (.int 2 239), en P "KIND_LATE" 242 (.int 3 241), en P "KIND_MATCHED" 244 (.int 4 243), en P "KIND_SEEN" 246 (.int 5 245), en P "Message" 281 (.ref 66), en P "Net" 347 (.ref 122), en P "describe" 354 (.ref 133), en P "describe_all" 363 (.ref 140), en P "Party" 399 (.ref 157), en P "Account" 429 (.ref 178), en P "Market" 479 (.ref 211), en P "held_amount" 489 (.ref 222), en P "matched_sheet" 502 (.ref 229), en P "matched_sum" 508 (.ref 234), en P "list_unmatched" 521 (.ref 241), en P "post_sent_sheet" 532 (.ref 248), en P "send" 541 (.ref 255), en P "arrive" 549 (.ref 262), en P "receive_sheet" 559 (.ref 269), en P "receive_have" 568 (.ref 276), en P "receive_late" 577 (.ref 283), en P "receive_matched" 586 (.ref 290), en P "receive_seen" 595 (.ref 297), en P "tick" 602 (.ref 304), en P "post_again" 610 (.ref 311), en P "post_confirmations" 618 (.ref 318), en P "calm" 627 (.ref 325), en P "ACCEPTED" 631 (.int 0 630), ⟨PySem.PyData.keyHash P "OUT_OF_RANGE", .str "OUT_OF_RANGE" 634, .int (-1) 633⟩, ⟨PySem.PyData.keyHash P "NOTHING_OPEN", .str "NOTHING_OPEN" 637, .int (-2) 636⟩, ⟨PySem.PyData.keyHash P "NO_SUCH_PARTY", .str "NO_SUCH_PARTY" 640, .int (-3) 639⟩, ⟨PySem.PyData.keyHash P "NO_SUCH_QUARTER", .str "NO_SUCH_QUARTER" 643, .int (-4) 642⟩, ⟨PySem.PyData.keyHash P "NO_MORE_VERSIONS", .str "NO_MORE_VERSIONS" 646, .int (-5) 645⟩, ⟨PySem.PyData.keyHash P "NO_SUCH_MESSAGE", .str "NO_SUCH_MESSAGE" 649, .int (-6) 648⟩, ⟨PySem.PyData.keyHash P "NET_IS_FULL", .str "NET_IS_FULL" 652, .int (-7) 651⟩, ⟨PySem.PyData.keyHash P "NOT_YET", .str "NOT_YET" 655, .int (-8) 654⟩, en P "CALL_OPEN" 657 (.int 0 656), en P "LAST_VERSION" 659 (.int 50 658), en P "RANGES" 739 (.ref 326), en P "PARTY_CALLS" 749 (.ref 367), en P "Session" 777 (.ref 384), en P "write_call" 788 (.ref 395), en P "clear_call" 797 (.ref 402), en P "send_call" 807 (.ref 409), en P "as_number" 814 (.ref 416), en P "tell_tick" 821 (.ref 423), en P "tick_call" 829 (.ref 430), en P "deliver_call" 839 (.ref 437), en P "lose_call" 848 (.ref 444), en P "double_call" 857 (.ref 451), en P "calm_call" 865 (.ref 458), en P "party_call" 877 (.ref 465), en P "house_call" 886 (.ref 472), en P "draft_call" 894 (.ref 479), en P "held_call" 902 (.ref 486), en P "final_call" 910 (.ref 493), en P "belief_call" 919 (.ref 500), en P "flying_call" 927 (.ref 507), en P "unmatched_call" 935 (.ref 514), en P "now_call" 943 (.ref 521), en P "total_call" 949 (.ref 526), en P "HANDLERS" 986 (.ref 527), en P "width_of" 993 (.ref 535), en P "in_ranges" 1003 (.ref 542), en P "answer_call" 1014 (.ref 549), en P "answers" 1029 (.ref 556)] 82, #[]⟩,
PySem.W.boot_o_4 P,
PySem.W.boot_o_5 P,
PySem.W.boot_o_6 P,
PySem.W.boot_o_7 P,
PySem.W.boot_o_8 P,
PySem.W.boot_o_9 P,
PySem.W.boot_o_10 P,
t0,
⟨.none, .none, .fields #[.int 2 0, .int 0 0, .ref 20, .int 7 0, .int 0 0, .ref 27, .int 9 0, .int 0 0, .ref 34, .int 11 0, .int 0 0, .ref 41, .int 16 0, .int 0 0, .ref 48, .int 29 0, .int 0 0, .ref 55, .int 36 0, .int 0 0, .ref 76, .int 56 0, .int 0 0, .ref 132, .int 58 0, .int 0 0, .ref 139, .int 64 0, .int 0 0, .ref 146, .int 74 0, .int 0 0, .ref 167, .int 80 0, .int 0 0, .ref 188, .int 97 0, .int 0 0, .ref 221, .int 99 0, .int 0 0, .ref 228, .int 107 0, .int 0 0, .ref 233, .int 110 0, .int 0 0, .ref 240, .int 121 0, .int 0 0, .ref 247, .int 124 0, .int 0 0, .ref 254, .int 131 0, .int 0 0, .ref 261, .int 142 0, .int 0 0, .ref 268, .int 152 0, .int 0 0, .ref 275, .int 157 0, .int 0 0, .ref 282, .int 162 0, .int 0 0, .ref 289, .int 166 0, .int 0 0, .ref 296, .int 169 0, .int 0 0, .ref 303, .int 176 0, .int 0 0, .ref 310, .int 180 0, .int 0 0, .ref 317, .int 184 0, .int 0 0, .ref 324, .int 203 0, .int 0 0, .ref 373, .int 207 0, .int 0 0, .ref 394, .int 217 0, .int 0 0, .ref 401, .int 221 0, .int 0 0, .ref 408, .int 228 0, .int 0 0, .ref 415, .int 230 0, .int 0 0, .ref 422, .int 232 0, .int 0 0, .ref 429, .int 235 0, .int 0 0, .ref 436, .int 242 0, .int 0 0, .ref 443, .int 248 0, .int 0 0, .ref 450, .int 256 0, .int 0 0, .ref 457, .int 259 0, .int 0 0, .ref 464, .int 265 0, .int 0 0, .ref 471, .int 268 0, .int 0 0, .ref 478, .int 270 0, .int 0 0, .ref 485, .int 272 0, .int 0 0, .ref 492, .int 276 0, .int 0 0, .ref 499, .int 281 0, .int 0 0, .ref 506, .int 283 0, .int 0 0, .ref 513, .int 285 0, .int 0 0, .ref 520, .int 287 0, .int 0 0, .ref 525, .int 293 0, .int 0 0, .ref 534, .int 295 0, .int 0 0, .ref 541, .int 300 0, .int 0 0, .ref 548, .int 314 0, .int 0 0, .ref 555], #[]⟩,
⟨.type "code", .none, .fields #[.str "<module>" 182, .str "<module>" 183, .str "/claim/cut.py" 184, .int 1 0, .int 0 0, .int 0 0, .int 0 0, .int 0 0, .ref 11, .bool .false, .int 181 0, .ref 12, .none, .none, .none, .none, .int 185 0, .int 1 0, .str "/claim/cut.py" 186], #[]⟩,
⟨.type "frame", .none, .plain, #[.some (.ref 13), .some (.ref 3), .some (.ref 3), .none, .some (.str "__main__" 164), .none, .some (.ref 0)]⟩,
t0,
f0,
ts 192 ["sheet", "other", "quarter", "amount"],
t0,
fd "write_amount" "write_amount" (topP p 1),
co "write_amount" "write_amount" 189 2 4 15 196,
fo "write_amount" "write_amount" (topP p 1) "gatehouse.sheets" 187 20,
t0,
f0,
ts 202 ["sheet", "other", "quarter"],
t0,
fd "read_amount" "read_amount" (topP p 2),
co "read_amount" "read_amount" 199 7 3 22 205,
fo "read_amount" "read_amount" (topP p 2) "gatehouse.sheets" 187 27,
t0,
f0,
ts 211 ["sheet"],
t0,
fd "count_rows" "count_rows" (topP p 3),
co "count_rows" "count_rows" 208 9 1 29 212,
fo "count_rows" "count_rows" (topP p 3) "gatehouse.sheets" 187 34,
t0,
f0,
ts 218 ["sheet", "rows", "other", "quarter"],
t0,
fd "list_rows" "list_rows" (topP p 4),
co "list_rows" "list_rows" 215 11 1 36 222,
fo "list_rows" "list_rows" (topP p 4) "gatehouse.sheets" 187 41,
t0,
f0,
ts 228 ["own", "theirs"],
t0,
fd "match_amounts" "match_amounts" (topP p 5),
co "match_amounts" "match_amounts" 225 16 2 43 230,
fo "match_amounts" "match_amounts" (topP p 5) "gatehouse.sheets" 187 48,
t0,
⟨.type "builtin_function_or_method", .none, .fields #[.builtin "type.__prepare__", .type "type"], #[]⟩,
⟨.type "dict", .none, .dict #[en P "__module__" 254 (.str "gatehouse.net" 233), en P "__qualname__" 256 (.str "Message" 255), en P "__firstlineno__" 258 (.int 29 257), en P "__init__" 269 (.ref 63), en P "__static_attributes__" 274 (.ref 64)] 5, #[]⟩,
t0,
⟨.none, .none, .fields #[.int 31 0, .int 4 0, .ref 62], #[]⟩,
⟨.type "code", .none, .fields #[.str "Message" 249, .str "Message" 250, .str "/claim/cut.py" 251, .int 29 0, .int 0 0, .int 0 0, .int 0 0, .int 0 0, .ref 53, .bool .false, .int 181 0, .ref 54, .none, .none, .none, .none, .int 252 0, .int 29 0, .str "/claim/cut.py" 253], #[]⟩,
⟨.type "frame", .none, .plain, #[.some (.ref 55), .some (.ref 3), .some (.ref 52), .none, .some (.str "gatehouse.net" 233), .none, .some (.ref 0)]⟩,
t0,
f0,
ts 262 ["self", "kind", "party", "version", "sheet"]]
noncomputable def oF1 (p : Program) (P : Params) : List Obj := [
t0,
fd "__init__" "Message.__init__" (L2.inClass (topP p 13) 0),
co "__init__" "Message.__init__" 259 31 5 57 267,
fo "__init__" "Message.__init__" (L2.inClass (topP p 13) 0) "gatehouse.net" 233 62,
ts 270 ["kind", "party", "sheet", "version"],
⟨.type "dict", .none, .dict #[en P "__module__" 254 (.str "gatehouse.net" 233), en P "__firstlineno__" 258 (.int 29 257), en P "__init__" 269 (.ref 63), en P "__static_attributes__" 274 (.ref 64), en P "__dict__" 276 (.ref 67), en P "__weakref__" 278 (.ref 68), en P "__doc__" 279 .none] 4, #[]⟩,
⟨.type "type", .none, .cls ⟨"Message", [.type "object"], [.ref 66, .type "object"], 65, "Message", .true, [], [], .false, .none, .false⟩, #[.none, .none, .some (.str "Message" 247), .some (.str "Message" 255), .some (.builtin "object.__new__"), .some (.bool .true)]⟩,
⟨.type "getset_descriptor", .none, .fields #[.str "__dict__" 275, .ref 66, .builtin "function.__dict__", .builtin "function.__dict__#set"], #[]⟩,
⟨.type "getset_descriptor", .none, .fields #[.str "__weakref__" 277, .ref 66, .builtin "ExceptionGroup.__weakref__", .none], #[]⟩,
⟨.type "super", .none, .fields #[.ref 66, .ref 66, .ref 66], #[]⟩,
⟨.type "builtin_function_or_method", .none, .fields #[.builtin "object.__init_subclass__", .ref 66], #[]⟩,
t0,
⟨.type "builtin_function_or_method", .none, .fields #[.builtin "type.__prepare__", .type "type"], #[]⟩,
⟨.type "dict", .none, .dict #[en P "__module__" 289 (.str "gatehouse.net" 233), en P "__qualname__" 291 (.str "Net" 290), en P "__firstlineno__" 293 (.int 36 292), en P "__init__" 300 (.ref 84), en P "under_way" 307 (.ref 91), en P "full" 314 (.ref 98), en P "post" 322 (.ref 105), en P "take" 330 (.ref 112), en P "double" 338 (.ref 119), en P "__static_attributes__" 340 (.ref 120)] 10, #[]⟩,
t0,
⟨.none, .none, .fields #[.int 38 0, .int 4 0, .ref 83, .int 41 0, .int 4 0, .ref 90, .int 44 0, .int 4 0, .ref 97, .int 47 0, .int 4 0, .ref 104, .int 51 0, .int 4 0, .ref 111, .int 54 0, .int 4 0, .ref 118], #[]⟩,
⟨.type "code", .none, .fields #[.str "Net" 284, .str "Net" 285, .str "/claim/cut.py" 286, .int 36 0, .int 0 0, .int 0 0, .int 0 0, .int 0 0, .ref 74, .bool .false, .int 181 0, .ref 75, .none, .none, .none, .none, .int 287 0, .int 36 0, .str "/claim/cut.py" 288], #[]⟩,
⟨.type "frame", .none, .plain, #[.some (.ref 76), .some (.ref 3), .some (.ref 73), .none, .some (.str "gatehouse.net" 233), .none, .some (.ref 0)]⟩,
t0,
f0,
ts 297 ["self"],
t0,
fd "__init__" "Net.__init__" (L2.inClass (topP p 14) 0),
co "__init__" "Net.__init__" 294 38 1 78 298,
fo "__init__" "Net.__init__" (L2.inClass (topP p 14) 0) "gatehouse.net" 233 83,
t0,
f0,
ts 304 ["self"],
t0,
fd "under_way" "Net.under_way" (L2.inClass (topP p 14) 1),
co "under_way" "Net.under_way" 301 41 1 85 305,
fo "under_way" "Net.under_way" (L2.inClass (topP p 14) 1) "gatehouse.net" 233 90,
t0,
f0,
ts 311 ["self"],
t0,
fd "full" "Net.full" (L2.inClass (topP p 14) 2),
co "full" "Net.full" 308 44 1 92 312,
fo "full" "Net.full" (L2.inClass (topP p 14) 2) "gatehouse.net" 233 97,
t0,
f0,
ts 318 ["self", "message"],
t0,
fd "post" "Net.post" (L2.inClass (topP p 14) 3),
co "post" "Net.post" 315 47 2 99 320,
fo "post" "Net.post" (L2.inClass (topP p 14) 3) "gatehouse.net" 233 104,
t0,
f0,
ts 326 ["self", "place"],
t0,
fd "take" "Net.take" (L2.inClass (topP p 14) 4),
co "take" "Net.take" 323 51 2 106 328,
fo "take" "Net.take" (L2.inClass (topP p 14) 4) "gatehouse.net" 233 111,
t0,
f0,
ts 334 ["self", "place"],
t0,
fd "double" "Net.double" (L2.inClass (topP p 14) 5),
co "double" "Net.double" 331 54 2 113 336,
fo "double" "Net.double" (L2.inClass (topP p 14) 5) "gatehouse.net" 233 118]
noncomputable def oF2 (p : Program) (P : Params) : List Obj := [
ts 339 ["messages"],
⟨.type "dict", .none, .dict #[en P "__module__" 289 (.str "gatehouse.net" 233), en P "__firstlineno__" 293 (.int 36 292), en P "__init__" 300 (.ref 84), en P "under_way" 307 (.ref 91), en P "full" 314 (.ref 98), en P "post" 322 (.ref 105), en P "take" 330 (.ref 112), en P "double" 338 (.ref 119), en P "__static_attributes__" 340 (.ref 120), en P "__dict__" 342 (.ref 123), en P "__weakref__" 344 (.ref 124), en P "__doc__" 345 .none] 4, #[]⟩,
⟨.type "type", .none, .cls ⟨"Net", [.type "object"], [.ref 122, .type "object"], 121, "Net", .true, [], [], .false, .none, .false⟩, #[.none, .none, .some (.str "Net" 282), .some (.str "Net" 290), .some (.builtin "object.__new__"), .some (.bool .true)]⟩,
⟨.type "getset_descriptor", .none, .fields #[.str "__dict__" 341, .ref 122, .builtin "function.__dict__", .builtin "function.__dict__#set"], #[]⟩,
⟨.type "getset_descriptor", .none, .fields #[.str "__weakref__" 343, .ref 122, .builtin "ExceptionGroup.__weakref__", .none], #[]⟩,
⟨.type "super", .none, .fields #[.ref 122, .ref 122, .ref 122], #[]⟩,
⟨.type "builtin_function_or_method", .none, .fields #[.builtin "object.__init_subclass__", .ref 122], #[]⟩,
t0,
f0,
ts 351 ["message"],
t0,
fd "describe" "describe" (topP p 15),
co "describe" "describe" 348 56 1 127 352,
fo "describe" "describe" (topP p 15) "gatehouse.net" 233 132,
t0,
f0,
ts 358 ["net", "described", "message"],
t0,
fd "describe_all" "describe_all" (topP p 16),
co "describe_all" "describe_all" 355 58 1 134 361,
fo "describe_all" "describe_all" (topP p 16) "gatehouse.net" 233 139,
t0,
⟨.type "builtin_function_or_method", .none, .fields #[.builtin "type.__prepare__", .type "type"], #[]⟩,
⟨.type "dict", .none, .dict #[en P "__module__" 373 (.str "gatehouse.market" 364), en P "__qualname__" 375 (.str "Party" 374), en P "__firstlineno__" 377 (.int 64 376), en P "__init__" 384 (.ref 154), en P "__static_attributes__" 392 (.ref 155)] 5, #[]⟩,
t0,
⟨.none, .none, .fields #[.int 66 0, .int 4 0, .ref 153], #[]⟩,
⟨.type "code", .none, .fields #[.str "Party" 368, .str "Party" 369, .str "/claim/cut.py" 370, .int 64 0, .int 0 0, .int 0 0, .int 0 0, .int 0 0, .ref 144, .bool .false, .int 181 0, .ref 145, .none, .none, .none, .none, .int 371 0, .int 64 0, .str "/claim/cut.py" 372], #[]⟩,
⟨.type "frame", .none, .plain, #[.some (.ref 146), .some (.ref 3), .some (.ref 143), .none, .some (.str "gatehouse.market" 364), .none, .some (.ref 0)]⟩,
t0,
f0,
ts 381 ["self"],
t0,
fd "__init__" "Party.__init__" (L2.inClass (topP p 18) 0),
co "__init__" "Party.__init__" 378 66 1 148 382,
fo "__init__" "Party.__init__" (L2.inClass (topP p 18) 0) "gatehouse.market" 364 153,
ts 385 ["acked", "belief", "draft", "sent", "too_late", "version", "waits"],
⟨.type "dict", .none, .dict #[en P "__module__" 373 (.str "gatehouse.market" 364), en P "__firstlineno__" 377 (.int 64 376), en P "__init__" 384 (.ref 154), en P "__static_attributes__" 392 (.ref 155), en P "__dict__" 394 (.ref 158), en P "__weakref__" 396 (.ref 159), en P "__doc__" 397 .none] 4, #[]⟩,
⟨.type "type", .none, .cls ⟨"Party", [.type "object"], [.ref 157, .type "object"], 156, "Party", .true, [], [], .false, .none, .false⟩, #[.none, .none, .some (.str "Party" 366), .some (.str "Party" 374), .some (.builtin "object.__new__"), .some (.bool .true)]⟩,
⟨.type "getset_descriptor", .none, .fields #[.str "__dict__" 393, .ref 157, .builtin "function.__dict__", .builtin "function.__dict__#set"], #[]⟩,
⟨.type "getset_descriptor", .none, .fields #[.str "__weakref__" 395, .ref 157, .builtin "ExceptionGroup.__weakref__", .none], #[]⟩,
⟨.type "super", .none, .fields #[.ref 157, .ref 157, .ref 157], #[]⟩,
⟨.type "builtin_function_or_method", .none, .fields #[.builtin "object.__init_subclass__", .ref 157], #[]⟩,
t0,
⟨.type "builtin_function_or_method", .none, .fields #[.builtin "type.__prepare__", .type "type"], #[]⟩,
⟨.type "dict", .none, .dict #[en P "__module__" 407 (.str "gatehouse.market" 364), en P "__qualname__" 409 (.str "Account" 408), en P "__firstlineno__" 411 (.int 74 410), en P "__init__" 418 (.ref 175), en P "__static_attributes__" 422 (.ref 176)] 5, #[]⟩,
t0,
⟨.none, .none, .fields #[.int 76 0, .int 4 0, .ref 174], #[]⟩,
⟨.type "code", .none, .fields #[.str "Account" 402, .str "Account" 403, .str "/claim/cut.py" 404, .int 74 0, .int 0 0, .int 0 0, .int 0 0, .int 0 0, .ref 165, .bool .false, .int 181 0, .ref 166, .none, .none, .none, .none, .int 405 0, .int 74 0, .str "/claim/cut.py" 406], #[]⟩,
⟨.type "frame", .none, .plain, #[.some (.ref 167), .some (.ref 3), .some (.ref 164), .none, .some (.str "gatehouse.market" 364), .none, .some (.ref 0)]⟩,
t0,
f0,
ts 415 ["self"],
t0,
fd "__init__" "Account.__init__" (L2.inClass (topP p 19) 0),
co "__init__" "Account.__init__" 412 76 1 169 416,
fo "__init__" "Account.__init__" (L2.inClass (topP p 19) 0) "gatehouse.market" 364 174,
ts 419 ["seen", "sheet", "version"],
⟨.type "dict", .none, .dict #[en P "__module__" 407 (.str "gatehouse.market" 364), en P "__firstlineno__" 411 (.int 74 410), en P "__init__" 418 (.ref 175), en P "__static_attributes__" 422 (.ref 176), en P "__dict__" 424 (.ref 179), en P "__weakref__" 426 (.ref 180), en P "__doc__" 427 .none] 4, #[]⟩,
⟨.type "type", .none, .cls ⟨"Account", [.type "object"], [.ref 178, .type "object"], 177, "Account", .true, [], [], .false, .none, .false⟩, #[.none, .none, .some (.str "Account" 400), .some (.str "Account" 408), .some (.builtin "object.__new__"), .some (.bool .true)]⟩,
⟨.type "getset_descriptor", .none, .fields #[.str "__dict__" 423, .ref 178, .builtin "function.__dict__", .builtin "function.__dict__#set"], #[]⟩]
noncomputable def oF3 (p : Program) (P : Params) : List Obj := [
⟨.type "getset_descriptor", .none, .fields #[.str "__weakref__" 425, .ref 178, .builtin "ExceptionGroup.__weakref__", .none], #[]⟩,
⟨.type "super", .none, .fields #[.ref 178, .ref 178, .ref 178], #[]⟩,
⟨.type "builtin_function_or_method", .none, .fields #[.builtin "object.__init_subclass__", .ref 178], #[]⟩,
t0,
⟨.type "builtin_function_or_method", .none, .fields #[.builtin "type.__prepare__", .type "type"], #[]⟩,
⟨.type "dict", .none, .dict #[en P "__module__" 437 (.str "gatehouse.market" 364), en P "__qualname__" 439 (.str "Market" 438), en P "__firstlineno__" 441 (.int 80 440), en P "__init__" 447 (.ref 194), en P "party_of" 455 (.ref 201), en P "account_of" 463 (.ref 208), en P "__static_attributes__" 472 (.ref 209)] 7, #[]⟩,
t0,
⟨.none, .none, .fields #[.int 82 0, .int 4 0, .ref 193, .int 92 0, .int 4 0, .ref 200, .int 95 0, .int 4 0, .ref 207], #[]⟩,
⟨.type "code", .none, .fields #[.str "Market" 432, .str "Market" 433, .str "/claim/cut.py" 434, .int 80 0, .int 0 0, .int 0 0, .int 0 0, .int 0 0, .ref 186, .bool .false, .int 181 0, .ref 187, .none, .none, .none, .none, .int 435 0, .int 80 0, .str "/claim/cut.py" 436], #[]⟩,
⟨.type "frame", .none, .plain, #[.some (.ref 188), .some (.ref 3), .some (.ref 185), .none, .some (.str "gatehouse.market" 364), .none, .some (.ref 0)]⟩,
t0,
f0,
fd "__init__" "Market.__init__" (L2.inClass (topP p 20) 0),
⟨.type "code", .none, .fields #[.str "__init__" 442, .str "Market.__init__" 443, .str "/claim/cut.py" 444, .int 82 0, .int 4 0, .int 0 0, .int 0 0, .int 3 0, .ref 190, .bool .true, .int 181 0, .ref 191, .none, .none, .none, .ref 192, .int 445 0, .int 82 0, .str "/claim/cut.py" 446], #[]⟩,
fo "__init__" "Market.__init__" (L2.inClass (topP p 20) 0) "gatehouse.market" 364 193,
t0,
f0,
ts 451 ["self", "number"],
t0,
fd "party_of" "Market.party_of" (L2.inClass (topP p 20) 1),
co "party_of" "Market.party_of" 448 92 2 195 453,
fo "party_of" "Market.party_of" (L2.inClass (topP p 20) 1) "gatehouse.market" 364 200,
t0,
f0,
ts 459 ["self", "number"],
t0,
fd "account_of" "Market.account_of" (L2.inClass (topP p 20) 2),
co "account_of" "Market.account_of" 456 95 2 202 461,
fo "account_of" "Market.account_of" (L2.inClass (topP p 20) 2) "gatehouse.market" 364 207,
ts 464 ["accounts", "closed", "gate", "net", "parties", "party_count", "quarter_count", "time"],
⟨.type "dict", .none, .dict #[en P "__module__" 437 (.str "gatehouse.market" 364), en P "__firstlineno__" 441 (.int 80 440), en P "__init__" 447 (.ref 194), en P "party_of" 455 (.ref 201), en P "account_of" 463 (.ref 208), en P "__static_attributes__" 472 (.ref 209), en P "__dict__" 474 (.ref 212), en P "__weakref__" 476 (.ref 213), en P "__doc__" 477 .none] 4, #[]⟩,
⟨.type "type", .none, .cls ⟨"Market", [.type "object"], [.ref 211, .type "object"], 210, "Market", .true, [], [], .false, .none, .false⟩, #[.none, .none, .some (.str "Market" 430), .some (.str "Market" 438), .some (.builtin "object.__new__"), .some (.bool .true)]⟩,
⟨.type "getset_descriptor", .none, .fields #[.str "__dict__" 473, .ref 211, .builtin "function.__dict__", .builtin "function.__dict__#set"], #[]⟩,
⟨.type "getset_descriptor", .none, .fields #[.str "__weakref__" 475, .ref 211, .builtin "ExceptionGroup.__weakref__", .none], #[]⟩,
⟨.type "super", .none, .fields #[.ref 211, .ref 211, .ref 211], #[]⟩,
⟨.type "builtin_function_or_method", .none, .fields #[.builtin "object.__init_subclass__", .ref 211], #[]⟩,
t0,
f0,
ts 483 ["market", "number", "other", "quarter"],
t0,
fd "held_amount" "held_amount" (topP p 21),
co "held_amount" "held_amount" 480 97 4 216 487,
fo "held_amount" "held_amount" (topP p 21) "gatehouse.market" 364 221,
t0,
f0,
ts 493 ["market", "number", "matched", "other", "quarter", "own", "theirs"],
t0,
fd "matched_sheet" "matched_sheet" (topP p 22),
co "matched_sheet" "matched_sheet" 490 99 2 223 500,
fo "matched_sheet" "matched_sheet" (topP p 22) "gatehouse.market" 364 228,
t0,
f0,
fd "matched_sum" "matched_sum" (topP p 23),
⟨.type "code", .none, .fields #[.str "matched_sum" 503, .str "matched_sum" 504, .str "/claim/cut.py" 505, .int 107 0, .int 3 0, .int 0 0, .int 0 0, .int 3 0, .ref 230, .bool .true, .int 181 0, .ref 231, .none, .none, .none, .ref 232, .int 506 0, .int 107 0, .str "/claim/cut.py" 507], #[]⟩,
fo "matched_sum" "matched_sum" (topP p 23) "gatehouse.market" 364 233,
t0,
f0,
ts 512 ["market", "unmatched", "number", "other", "quarter", "own", "theirs"],
t0,
fd "list_unmatched" "list_unmatched" (topP p 24)]
noncomputable def oF4 (p : Program) (P : Params) : List Obj := [
co "list_unmatched" "list_unmatched" 509 110 1 235 519,
fo "list_unmatched" "list_unmatched" (topP p 24) "gatehouse.market" 364 240,
t0,
f0,
ts 527 ["market", "number", "party"],
t0,
fd "post_sent_sheet" "post_sent_sheet" (topP p 26),
co "post_sent_sheet" "post_sent_sheet" 524 121 2 242 530,
fo "post_sent_sheet" "post_sent_sheet" (topP p 26) "gatehouse.events" 522 247,
t0,
f0,
ts 536 ["market", "number", "party"],
t0,
fd "send" "send" (topP p 27),
co "send" "send" 533 124 2 249 539,
fo "send" "send" (topP p 27) "gatehouse.events" 522 254,
t0,
f0,
ts 545 ["market", "message"],
t0,
fd "arrive" "arrive" (topP p 28),
co "arrive" "arrive" 542 131 2 256 547,
fo "arrive" "arrive" (topP p 28) "gatehouse.events" 522 261,
t0,
f0,
ts 553 ["market", "message", "account", "reply"],
t0,
fd "receive_sheet" "receive_sheet" (topP p 29),
co "receive_sheet" "receive_sheet" 550 142 2 263 557,
fo "receive_sheet" "receive_sheet" (topP p 29) "gatehouse.events" 522 268,
t0,
f0,
ts 563 ["market", "message", "party"],
t0,
fd "receive_have" "receive_have" (topP p 30),
co "receive_have" "receive_have" 560 152 2 270 566,
fo "receive_have" "receive_have" (topP p 30) "gatehouse.events" 522 275,
t0,
f0,
ts 572 ["market", "message", "party"],
t0,
fd "receive_late" "receive_late" (topP p 31),
co "receive_late" "receive_late" 569 157 2 277 575,
fo "receive_late" "receive_late" (topP p 31) "gatehouse.events" 522 282,
t0,
f0,
ts 581 ["market", "message", "party"],
t0,
fd "receive_matched" "receive_matched" (topP p 32),
co "receive_matched" "receive_matched" 578 162 2 284 584,
fo "receive_matched" "receive_matched" (topP p 32) "gatehouse.events" 522 289,
t0,
f0,
ts 590 ["market", "message", "account"],
t0,
fd "receive_seen" "receive_seen" (topP p 33),
co "receive_seen" "receive_seen" 587 166 2 291 593,
fo "receive_seen" "receive_seen" (topP p 33) "gatehouse.events" 522 296,
t0,
f0]
noncomputable def oF5 (p : Program) (P : Params) : List Obj := [
ts 599 ["market"],
t0,
fd "tick" "tick" (topP p 34),
co "tick" "tick" 596 169 1 298 600,
fo "tick" "tick" (topP p 34) "gatehouse.events" 522 303,
t0,
f0,
ts 606 ["market", "number"],
t0,
fd "post_again" "post_again" (topP p 35),
co "post_again" "post_again" 603 176 1 305 608,
fo "post_again" "post_again" (topP p 35) "gatehouse.events" 522 310,
t0,
f0,
ts 614 ["market", "number"],
t0,
fd "post_confirmations" "post_confirmations" (topP p 36),
co "post_confirmations" "post_confirmations" 611 180 1 312 616,
fo "post_confirmations" "post_confirmations" (topP p 36) "gatehouse.events" 522 317,
t0,
f0,
ts 622 ["market", "rounds", "done"],
t0,
fd "calm" "calm" (topP p 37),
co "calm" "calm" 619 184 2 319 625,
fo "calm" "calm" (topP p 37) "gatehouse.events" 522 324,
⟨.type "dict", .none, .dict #[⟨0, .int 0 660, .ref 330⟩, ⟨1, .int 1 668, .ref 335⟩, ⟨2, .int 2 679, .ref 337⟩, ⟨3, .int 3 683, .ref 339⟩, ⟨4, .int 4 687, .ref 340⟩, ⟨5, .int 5 689, .ref 342⟩, ⟨6, .int 6 693, .ref 344⟩, ⟨7, .int 7 697, .ref 346⟩, ⟨8, .int 8 701, .ref 348⟩, ⟨9, .int 9 705, .ref 350⟩, ⟨10, .int 10 709, .ref 352⟩, ⟨11, .int 11 713, .ref 354⟩, ⟨12, .int 12 717, .ref 356⟩, ⟨13, .int 13 721, .ref 358⟩, ⟨14, .int 14 725, .ref 360⟩, ⟨15, .int 15 729, .ref 361⟩, ⟨16, .int 16 731, .ref 362⟩, ⟨17, .int 17 733, .ref 364⟩, ⟨18, .int 18 734, .ref 366⟩] 19, #[]⟩,
⟨.type "tuple", .none, .seq #[.int 2 661, .int 4 662] 0, #[]⟩,
⟨.type "tuple", .none, .seq #[.int 1 663, .int 3 664] 0, #[]⟩,
⟨.type "tuple", .none, .seq #[.int 1 665, .int 100 666] 0, #[]⟩,
⟨.type "tuple", .none, .seq #[.ref 327, .ref 328, .ref 329] 0, #[]⟩,
⟨.type "tuple", .none, .seq #[.int 1 669, .int 4 670] 0, #[]⟩,
⟨.type "tuple", .none, .seq #[.int 1 671, .int 4 672] 0, #[]⟩,
⟨.type "tuple", .none, .seq #[.int 1 673, .int 3 674] 0, #[]⟩,
⟨.type "tuple", .none, .seq #[.int (-1000000000) 676, .int 1000000000 677] 0, #[]⟩,
⟨.type "tuple", .none, .seq #[.ref 331, .ref 332, .ref 333, .ref 334] 0, #[]⟩,
⟨.type "tuple", .none, .seq #[.int 1 680, .int 4 681] 0, #[]⟩,
⟨.type "tuple", .none, .seq #[.ref 336] 0, #[]⟩,
⟨.type "tuple", .none, .seq #[.int 1 684, .int 4 685] 0, #[]⟩,
⟨.type "tuple", .none, .seq #[.ref 338] 0, #[]⟩,
t0,
⟨.type "tuple", .none, .seq #[.int 1 690, .int 40 691] 0, #[]⟩,
⟨.type "tuple", .none, .seq #[.ref 341] 0, #[]⟩,
⟨.type "tuple", .none, .seq #[.int 1 694, .int 40 695] 0, #[]⟩,
⟨.type "tuple", .none, .seq #[.ref 343] 0, #[]⟩,
⟨.type "tuple", .none, .seq #[.int 1 698, .int 40 699] 0, #[]⟩,
⟨.type "tuple", .none, .seq #[.ref 345] 0, #[]⟩,
⟨.type "tuple", .none, .seq #[.int 1 702, .int 5 703] 0, #[]⟩,
⟨.type "tuple", .none, .seq #[.ref 347] 0, #[]⟩,
⟨.type "tuple", .none, .seq #[.int 1 706, .int 4 707] 0, #[]⟩,
⟨.type "tuple", .none, .seq #[.ref 349] 0, #[]⟩,
⟨.type "tuple", .none, .seq #[.int 1 710, .int 4 711] 0, #[]⟩,
⟨.type "tuple", .none, .seq #[.ref 351] 0, #[]⟩,
⟨.type "tuple", .none, .seq #[.int 1 714, .int 4 715] 0, #[]⟩,
⟨.type "tuple", .none, .seq #[.ref 353] 0, #[]⟩,
⟨.type "tuple", .none, .seq #[.int 1 718, .int 4 719] 0, #[]⟩,
⟨.type "tuple", .none, .seq #[.ref 355] 0, #[]⟩,
⟨.type "tuple", .none, .seq #[.int 1 722, .int 4 723] 0, #[]⟩,
⟨.type "tuple", .none, .seq #[.ref 357] 0, #[]⟩,
⟨.type "tuple", .none, .seq #[.int 1 726, .int 4 727] 0, #[]⟩]
noncomputable def oF6 (p : Program) (P : Params) : List Obj := [
⟨.type "tuple", .none, .seq #[.ref 359] 0, #[]⟩,
t0,
t0,
⟨.type "dict", .none, .dict #[⟨17, .int 17 733, .ref 364⟩, ⟨18, .int 18 734, .ref 366⟩] 2, #[]⟩,
t0,
⟨.type "tuple", .none, .seq #[.int 1 735, .int 3 736] 0, #[]⟩,
⟨.type "tuple", .none, .seq #[.ref 365] 0, #[]⟩,
⟨.type "tuple", .none, .seq #[.int 1 740, .int 2 741, .int 3 742, .int 9 743, .int 10 744, .int 11 745, .int 12 746, .int 13 747, .int 14 748] 0, #[]⟩,
t0,
⟨.type "builtin_function_or_method", .none, .fields #[.builtin "type.__prepare__", .type "type"], #[]⟩,
⟨.type "dict", .none, .dict #[en P "__module__" 757 (.str "gatehouse.handlers" 628), en P "__qualname__" 759 (.str "Session" 758), en P "__firstlineno__" 761 (.int 203 760), en P "__init__" 768 (.ref 381), en P "__static_attributes__" 770 (.ref 382)] 5, #[]⟩,
t0,
⟨.none, .none, .fields #[.int 205 0, .int 4 0, .ref 380], #[]⟩,
⟨.type "code", .none, .fields #[.str "Session" 752, .str "Session" 753, .str "/claim/cut.py" 754, .int 203 0, .int 0 0, .int 0 0, .int 0 0, .int 0 0, .ref 371, .bool .false, .int 181 0, .ref 372, .none, .none, .none, .none, .int 755 0, .int 203 0, .str "/claim/cut.py" 756], #[]⟩,
⟨.type "frame", .none, .plain, #[.some (.ref 373), .some (.ref 3), .some (.ref 370), .none, .some (.str "gatehouse.handlers" 628), .none, .some (.ref 0)]⟩,
t0,
f0,
ts 765 ["self"],
t0,
fd "__init__" "Session.__init__" (L2.inClass (topP p 52) 0),
co "__init__" "Session.__init__" 762 205 1 375 766,
fo "__init__" "Session.__init__" (L2.inClass (topP p 52) 0) "gatehouse.handlers" 628 380,
ts 769 ["market"],
⟨.type "dict", .none, .dict #[en P "__module__" 757 (.str "gatehouse.handlers" 628), en P "__firstlineno__" 761 (.int 203 760), en P "__init__" 768 (.ref 381), en P "__static_attributes__" 770 (.ref 382), en P "__dict__" 772 (.ref 385), en P "__weakref__" 774 (.ref 386), en P "__doc__" 775 .none] 4, #[]⟩,
⟨.type "type", .none, .cls ⟨"Session", [.type "object"], [.ref 384, .type "object"], 383, "Session", .true, [], [], .false, .none, .false⟩, #[.none, .none, .some (.str "Session" 750), .some (.str "Session" 758), .some (.builtin "object.__new__"), .some (.bool .true)]⟩,
⟨.type "getset_descriptor", .none, .fields #[.str "__dict__" 771, .ref 384, .builtin "function.__dict__", .builtin "function.__dict__#set"], #[]⟩,
⟨.type "getset_descriptor", .none, .fields #[.str "__weakref__" 773, .ref 384, .builtin "ExceptionGroup.__weakref__", .none], #[]⟩,
⟨.type "super", .none, .fields #[.ref 384, .ref 384, .ref 384], #[]⟩,
⟨.type "builtin_function_or_method", .none, .fields #[.builtin "object.__init_subclass__", .ref 384], #[]⟩,
t0,
f0,
ts 781 ["market", "numbers", "number", "other", "quarter"],
t0,
fd "write_call" "write_call" (topP p 53),
co "write_call" "write_call" 778 207 2 389 786,
fo "write_call" "write_call" (topP p 53) "gatehouse.handlers" 628 394,
t0,
f0,
ts 792 ["market", "numbers", "party"],
t0,
fd "clear_call" "clear_call" (topP p 54),
co "clear_call" "clear_call" 789 217 2 396 795,
fo "clear_call" "clear_call" (topP p 54) "gatehouse.handlers" 628 401,
t0,
f0,
ts 801 ["market", "numbers", "number", "party"],
t0,
fd "send_call" "send_call" (topP p 55),
co "send_call" "send_call" 798 221 2 403 805,
fo "send_call" "send_call" (topP p 55) "gatehouse.handlers" 628 408,
t0,
f0,
ts 811 ["truth"],
t0,
fd "as_number" "as_number" (topP p 56),
co "as_number" "as_number" 808 228 1 410 812,
fo "as_number" "as_number" (topP p 56) "gatehouse.handlers" 628 415,
t0,
f0,
ts 818 ["market"]]
noncomputable def oF7 (p : Program) (P : Params) : List Obj := [
t0,
fd "tell_tick" "tell_tick" (topP p 57),
co "tell_tick" "tell_tick" 815 230 1 417 819,
fo "tell_tick" "tell_tick" (topP p 57) "gatehouse.handlers" 628 422,
t0,
f0,
ts 825 ["market", "numbers"],
t0,
fd "tick_call" "tick_call" (topP p 58),
co "tick_call" "tick_call" 822 232 2 424 827,
fo "tick_call" "tick_call" (topP p 58) "gatehouse.handlers" 628 429,
t0,
f0,
ts 833 ["market", "numbers", "place", "message"],
t0,
fd "deliver_call" "deliver_call" (topP p 59),
co "deliver_call" "deliver_call" 830 235 2 431 837,
fo "deliver_call" "deliver_call" (topP p 59) "gatehouse.handlers" 628 436,
t0,
f0,
ts 843 ["market", "numbers", "place"],
t0,
fd "lose_call" "lose_call" (topP p 60),
co "lose_call" "lose_call" 840 242 2 438 846,
fo "lose_call" "lose_call" (topP p 60) "gatehouse.handlers" 628 443,
t0,
f0,
ts 852 ["market", "numbers", "place"],
t0,
fd "double_call" "double_call" (topP p 61),
co "double_call" "double_call" 849 248 2 445 855,
fo "double_call" "double_call" (topP p 61) "gatehouse.handlers" 628 450,
t0,
f0,
ts 861 ["market", "numbers"],
t0,
fd "calm_call" "calm_call" (topP p 62),
co "calm_call" "calm_call" 858 256 2 452 863,
fo "calm_call" "calm_call" (topP p 62) "gatehouse.handlers" 628 457,
t0,
f0,
ts 869 ["market", "numbers", "party", "waits", "too_late", "believes"],
t0,
fd "party_call" "party_call" (topP p 63),
co "party_call" "party_call" 866 259 2 459 875,
fo "party_call" "party_call" (topP p 63) "gatehouse.handlers" 628 464,
t0,
f0,
ts 881 ["market", "numbers", "account"],
t0,
fd "house_call" "house_call" (topP p 64),
co "house_call" "house_call" 878 265 2 466 884,
fo "house_call" "house_call" (topP p 64) "gatehouse.handlers" 628 471,
t0,
f0,
ts 890 ["market", "numbers"],
t0,
fd "draft_call" "draft_call" (topP p 65),
co "draft_call" "draft_call" 887 268 2 473 892,
fo "draft_call" "draft_call" (topP p 65) "gatehouse.handlers" 628 478]
noncomputable def oF8 (p : Program) (P : Params) : List Obj := [
t0,
f0,
ts 898 ["market", "numbers"],
t0,
fd "held_call" "held_call" (topP p 66),
co "held_call" "held_call" 895 270 2 480 900,
fo "held_call" "held_call" (topP p 66) "gatehouse.handlers" 628 485,
t0,
f0,
ts 906 ["market", "numbers"],
t0,
fd "final_call" "final_call" (topP p 67),
co "final_call" "final_call" 903 272 2 487 908,
fo "final_call" "final_call" (topP p 67) "gatehouse.handlers" 628 492,
t0,
f0,
ts 914 ["market", "numbers", "belief"],
t0,
fd "belief_call" "belief_call" (topP p 68),
co "belief_call" "belief_call" 911 276 2 494 917,
fo "belief_call" "belief_call" (topP p 68) "gatehouse.handlers" 628 499,
t0,
f0,
ts 923 ["market", "numbers"],
t0,
fd "flying_call" "flying_call" (topP p 69),
co "flying_call" "flying_call" 920 281 2 501 925,
fo "flying_call" "flying_call" (topP p 69) "gatehouse.handlers" 628 506,
t0,
f0,
ts 931 ["market", "numbers"],
t0,
fd "unmatched_call" "unmatched_call" (topP p 70),
co "unmatched_call" "unmatched_call" 928 283 2 508 933,
fo "unmatched_call" "unmatched_call" (topP p 70) "gatehouse.handlers" 628 513,
t0,
f0,
ts 939 ["market", "numbers"],
t0,
fd "now_call" "now_call" (topP p 71),
co "now_call" "now_call" 936 285 2 515 941,
fo "now_call" "now_call" (topP p 71) "gatehouse.handlers" 628 520,
t0,
f0,
fd "total_call" "total_call" (topP p 72),
⟨.type "code", .none, .fields #[.str "total_call" 944, .str "total_call" 945, .str "/claim/cut.py" 946, .int 287 0, .int 2 0, .int 0 0, .int 0 0, .int 3 0, .ref 522, .bool .true, .int 181 0, .ref 523, .none, .none, .none, .ref 524, .int 947 0, .int 287 0, .str "/claim/cut.py" 948], #[]⟩,
fo "total_call" "total_call" (topP p 72) "gatehouse.handlers" 628 525,
⟨.type "dict", .none, .dict #[⟨1, .int 1 950, .ref 395⟩, ⟨2, .int 2 952, .ref 402⟩, ⟨3, .int 3 954, .ref 409⟩, ⟨4, .int 4 956, .ref 430⟩, ⟨5, .int 5 958, .ref 437⟩, ⟨6, .int 6 960, .ref 444⟩, ⟨7, .int 7 962, .ref 451⟩, ⟨8, .int 8 964, .ref 458⟩, ⟨9, .int 9 966, .ref 465⟩, ⟨10, .int 10 968, .ref 472⟩, ⟨11, .int 11 970, .ref 479⟩, ⟨12, .int 12 972, .ref 486⟩, ⟨13, .int 13 974, .ref 493⟩, ⟨14, .int 14 976, .ref 500⟩, ⟨15, .int 15 978, .ref 507⟩, ⟨16, .int 16 980, .ref 514⟩, ⟨17, .int 17 982, .ref 521⟩, ⟨18, .int 18 984, .ref 526⟩] 18, #[]⟩,
⟨.type "dict", .none, .dict #[⟨18, .int 18 984, .ref 526⟩] 1, #[]⟩,
t0,
f0,
ts 990 ["call"],
t0,
fd "width_of" "width_of" (topP p 74),
co "width_of" "width_of" 987 293 1 529 991,
fo "width_of" "width_of" (topP p 74) "gatehouse.handlers" 628 534,
t0,
f0,
ts 997 ["call", "numbers", "value", "bounds"],
t0]
noncomputable def oF9 (p : Program) (P : Params) : List Obj := [
fd "in_ranges" "in_ranges" (topP p 75),
co "in_ranges" "in_ranges" 994 295 2 536 1001,
fo "in_ranges" "in_ranges" (topP p 75) "gatehouse.handlers" 628 541,
t0,
f0,
ts 1007 ["session", "call", "numbers", "market", "handler"],
t0,
fd "answer_call" "answer_call" (topP p 76),
co "answer_call" "answer_call" 1004 300 3 543 1012,
fo "answer_call" "answer_call" (topP p 76) "gatehouse.handlers" 628 548,
t0,
f0,
ts 1020 ["calls", "session", "answered", "place", "call", "first", "answer"],
t0,
fd "answers" "answers" (topP p 78),
co "answers" "answers" 1017 314 1 550 1027,
fo "answers" "answers" (topP p 78) "gatehouse.nominations" 1015 555]
noncomputable def Hf (p : Program) (P : Params) : Heap := { objs := { toList := oF0 p P ++ oF1 p P ++ oF2 p P ++ oF3 p P ++ oF4 p P ++ oF5 p P ++ oF6 p P ++ oF7 p P ++ oF8 p P ++ oF9 p P } }
end G
end
section
set_option Elab.async false
set_option linter.all false
set_option maxRecDepth 100000
set_option maxHeartbeats 0
namespace G
open PySem PySem.W
abbrev keepL : List Nat := [1, 2, 3, 4, 5, 7, 8, 9, 10, 11, 12, 13, 14, 15, 16, 18, 19, 20, 21, 22, 23, 24, 26, 27, 28, 29, 30, 31, 32, 33, 34, 35, 36, 37, 39, 40, 41, 42, 43, 44, 45, 46, 47, 48, 49, 50, 51, 52, 53, 54, 55, 56, 57, 58, 59, 60, 61, 62, 63, 64, 65, 66, 67, 68, 69, 70, 71, 72, 73, 74, 75, 76, 78]
theorem main_false (w : World) : (fun os => (Fast.tw10110043849684766642 Fast.tw14364793385576792824 Fast.tw1264522055504965886 (w.withFollow "special-get-raises" false) 11 (some (.ref 6)) 1 4050 (SharedT.mk (HD.Tb (w.withFollow "special-get-raises" false).params) 15 {} (Array.mk []) {} 187 os) (piecesOf (behindTheImports Fast.tw1264522055504965886) (HD.envP Fast.tw1264522055504965886) (Code.body (behindTheImports Fast.tw1264522055504965886) (HD.envP Fast.tw1264522055504965886)) HD.pos0 [topFrame HD.pos0])).bind fun r =>
    (Fast.tw14082659384304107361 Fast.tw14364793385576792824 Fast.tw1264522055504965886 (w.withFollow "special-get-raises" false) 11 (some (.ref 6)) 60 r.2.1.abs ⟨doneF .next, Code.body (behindTheImports Fast.tw1264522055504965886) (HD.envP Fast.tw1264522055504965886), r.2.2.2, [topFrame HD.pos0]⟩).map fun s => (r.1, r.2.2.1, s)) =
    fun os => some (Flow.next, Code.body (behindTheImports Fast.tw1264522055504965886) (HD.envP Fast.tw1264522055504965886), (⟨Hf Fast.tw1264522055504965886 (w.withFollow "special-get-raises" false).params, Array.mk [], {}, 1030, os⟩ : Shared)) := by
  kernel_rfl
theorem main_true (w : World) : (fun os => (Fast.tw10110043849684766642 Fast.tw14364793385576792824 Fast.tw1264522055504965886 (w.withFollow "special-get-raises" true) 11 (some (.ref 6)) 1 4050 (SharedT.mk (HD.Tb (w.withFollow "special-get-raises" true).params) 15 {} (Array.mk []) {} 187 os) (piecesOf (behindTheImports Fast.tw1264522055504965886) (HD.envP Fast.tw1264522055504965886) (Code.body (behindTheImports Fast.tw1264522055504965886) (HD.envP Fast.tw1264522055504965886)) HD.pos0 [topFrame HD.pos0])).bind fun r =>
    (Fast.tw14082659384304107361 Fast.tw14364793385576792824 Fast.tw1264522055504965886 (w.withFollow "special-get-raises" true) 11 (some (.ref 6)) 60 r.2.1.abs ⟨doneF .next, Code.body (behindTheImports Fast.tw1264522055504965886) (HD.envP Fast.tw1264522055504965886), r.2.2.2, [topFrame HD.pos0]⟩).map fun s => (r.1, r.2.2.1, s)) =
    fun os => some (Flow.next, Code.body (behindTheImports Fast.tw1264522055504965886) (HD.envP Fast.tw1264522055504965886), (⟨Hf Fast.tw1264522055504965886 (w.withFollow "special-get-raises" true).params, Array.mk [], {}, 1030, os⟩ : Shared)) := by
  kernel_rfl
theorem looksA (w : World) (os : OsState) : (staticsOk (Fast.tw5923862056798008813 Fast.tw1264522055504965886.main.body) (boot_heap w.params) (Hf Fast.tw1264522055504965886 w.params) && namesBound Fast.tw1264522055504965886 (Hf Fast.tw1264522055504965886 w.params) && gensDone (⟨Hf Fast.tw1264522055504965886 w.params, Array.mk [], {}, 1030, os⟩ : Shared) && laidKept (boot_heap w.params) (Hf Fast.tw1264522055504965886 w.params)) = true := by
  kernel_rfl
theorem looksB (w : World) (os : OsState) : Fast.tw4187177175401517315 (view Fast.tw1264522055504965886 keepL) ["RANGES", "HANDLERS"] (Fast.tw5923862056798008813 Fast.tw1264522055504965886.main.body) (fun s => xlAt (view Fast.tw1264522055504965886 keepL) [] s && recOk [] s) true (⟨Hf Fast.tw1264522055504965886 w.params, Array.mk [], {}, 1030, os⟩ : Shared) = openGood (view Fast.tw1264522055504965886 keepL) ["RANGES", "HANDLERS"] := by
  kernel_rfl
theorem looksC (w : World) : obs (HD.fragOf (List.range 557) (Hf Fast.tw1264522055504965886 w.params)) = good Fast.tw1264522055504965886 := by
  kernel_rfl
def hook : Hook where
  α := List HD.T
  obs := fun s => obs (HD.fragOf (List.range 557) s.heap)
  val := fun _ => good PySem.Challenge.pw_gatehouse_s01_answers
  says := fun _ h => ∃ K : Frag, K.In h ∧ obs K = good PySem.Challenge.pw_gatehouse_s01_answers
  of := fun _ s e => ⟨_, HD.fragOf_in s.heap _, e⟩
  keeps := fun _ _ _ x k => let ⟨K, X, e⟩ := x; ⟨K, X.keeps k, e⟩
theorem mainS : ∀ w : World, (fun os => (segRunT treeTable PySem.Challenge.pw_gatehouse_s01_answers w 11 (some (.ref 6)) 1 4050 (SharedT.mk (HD.Tb w.params) 15 {} (Array.mk []) {} 187 os) (piecesOf (behindTheImports PySem.Challenge.pw_gatehouse_s01_answers) (HD.envP PySem.Challenge.pw_gatehouse_s01_answers) (Code.body (behindTheImports PySem.Challenge.pw_gatehouse_s01_answers) (HD.envP PySem.Challenge.pw_gatehouse_s01_answers)) HD.pos0 [topFrame HD.pos0])).bind fun r =>
    (topRun treeTable PySem.Challenge.pw_gatehouse_s01_answers w 11 (some (.ref 6)) 60 r.2.1.abs ⟨doneF .next, Code.body (behindTheImports PySem.Challenge.pw_gatehouse_s01_answers) (HD.envP PySem.Challenge.pw_gatehouse_s01_answers), r.2.2.2, [topFrame HD.pos0]⟩).map fun s => (r.1, r.2.2.1, s)) =
    fun os => some (Flow.next, Code.body (behindTheImports PySem.Challenge.pw_gatehouse_s01_answers) (HD.envP PySem.Challenge.pw_gatehouse_s01_answers), (⟨Hf PySem.Challenge.pw_gatehouse_s01_answers w.params, Array.mk [], {}, 1030, os⟩ : Shared)) := by
  refine byRow2 "special-get-raises" (fun w => ?_) (fun w => ?_)
  · rewrite [Fast.te10110043849684766642, Fast.te14364793385576792824, Fast.te14082659384304107361, Fast.te1264522055504965886]
    exact main_false w
  · rewrite [Fast.te10110043849684766642, Fast.te14364793385576792824, Fast.te14082659384304107361, Fast.te1264522055504965886]
    exact main_true w
theorem left : LeftO PySem.Challenge.pw_gatehouse_s01_answers (view PySem.Challenge.pw_gatehouse_s01_answers keepL) ["RANGES", "HANDLERS"] (fun s => xlAt (view PySem.Challenge.pw_gatehouse_s01_answers keepL) [] s && recOk [] s) hook.obs hook.val 4823 := by
  refine HD.left_two (M := 4050) (Mf := 60) (kf := 1030) (Hf := Hf PySem.Challenge.pw_gatehouse_s01_answers) (boot_open ?e (by decide) ?f) ?size ?pre ?block mainS (by decide) (fun w => ?looks)
  case e => kernel_rfl
  case f =>
    intro s
    kernel_rfl
  case size =>
    intro w
    kernel_rfl
  case pre =>
    intro w os
    kernel_rfl
  case block =>
    intro w os
    kernel_rfl
  case looks =>
    funext os
    have a := looksA w os
    have b := looksB w os
    have c := looksC w
    rewrite [← Fast.te5923862056798008813, ← Fast.te1264522055504965886] at a
    rewrite [← Fast.te4187177175401517315, ← Fast.te5923862056798008813, ← Fast.te1264522055504965886] at b
    rewrite [← Fast.te1264522055504965886] at c
    exact Prod.ext a (Prod.ext b c)
theorem said : PySem.Challenge.rw_gatehouse_s01_answers.wellSaid = true := by decide +kernel
end G
end
section
set_option Elab.async false
set_option linter.all false
open PySem PySem.W PyProof.Rows
set_option maxRecDepth 100000 in
set_option maxHeartbeats 0 in
theorem PySem.Challenge.cw_gatehouse_s01_answers_holds : PySem.Challenge.rw_gatehouse_s01_answers.Holds := by
  refine holds_os (r := PySem.Challenge.rw_gatehouse_s01_answers) (q := view PySem.Challenge.pw_gatehouse_s01_answers _root_.G.keepL) (loose := ["RANGES", "HANDLERS"]) (Xt := fun s => xlAt (view PySem.Challenge.pw_gatehouse_s01_answers _root_.G.keepL) [] s && recOk [] s) (XP := XL (view PySem.Challenge.pw_gatehouse_s01_answers _root_.G.keepL) []) (Yf := _root_.G.hook.obs) (Ya := _root_.G.hook.val) (YP := _root_.G.hook.says) (d := ⟨"answers", L2.defArgs _root_.G.s_answers, L2.defBody _root_.G.s_answers, L2.defScope _root_.G.s_answers, HD.defPos _root_.G.s_answers⟩) (kwd := []) (N := 4823) _root_.G.left _root_.G.hook.of _root_.G.hook.keeps (fun s e => xl_of s (Bool.and_eq_true_iff.mp e).1) XL.keeps ?hdef ?hp ?hk (fun s e => recFacts_of (Bool.and_eq_true_iff.mp e).2) os_shapes _root_.G.said (by decide +kernel) ⟨rfl, rfl, rfl, rfl, rfl, by decide +kernel⟩ ⟨[.list [.int 4]], by decide +kernel, by decide +kernel⟩ ?call
  case hdef => kernel_rfl
  case hp => kernel_rfl
  case hk => kernel_rfl
  case call =>
    intro w s0 s1 mg mb Gd Y
    obtain ⟨K, X, e⟩ := Y
    refine L2.walk_specK (r := PySem.Challenge.rw_gatehouse_s01_answers) (k := 9) (CX := L2.CX0) (K := fun _ => K) (YP := fun _ h => K.In h) (ps := ["calls"]) (sp := _root_.G.sp_answers) _root_.G.said rfl rfl ⟨rfl, by decide, by decide⟩ (fun w h Y => Y) (fun w mg fa h Y KX Gn hmg => _root_.G.all_mk KX Gn hmg e) ?S (fun _ _ _ _ z => z) w s0 s1 mg mb Gd X
    intro K H xs a hO hwi hask hx
    cases hx with
    | cons h1 h2 =>
      cases h2
      cases h1 with
      | lst hs ha =>
        have e := L2.ints_dw a.1 _ ha
        subst e
        exact ⟨_, a.1, rfl, hs, hask, fun H' p hp => .lst (L2.SqL.of hp) (L2.dw_ints _)⟩
#print axioms PySem.Challenge.cw_gatehouse_s01_answers_holds
end
