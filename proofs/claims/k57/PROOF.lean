import PyProof.Rows.All
import Wide.All
import OpenK.AllK
import Wide.FinOn
import Lean
import PyProof.EqAt
import PyProof.EqKinds
import PyProof.TupleCall
import PyProof.EnumMake
import PyProof.EnumFor
import PyProof.Draws
import PyProof.DictWalks
import PyProof.ListRange
import KE.KDictLaws
import KE.KEqDat
import KE.KSortTup
import KE.KSorted
import KE.KDictList
import PyProof.ZipIter
import PyProof.Rows.SortWalk
import PyProof.Rows.SumAny
import PyProof.TupleIter
import KE.KIntText
import PyProof.MeetsStr2
import PyProof.StrWalks
import Wide.Txt
import KE.KPairComp
import PyProof.Rows.SortRuns
import KE.KRevIter
import PyProof.Rows.MinMaxN
import KE.KEqDict
import KE.KSortedM
import PySem.Challenge.RW_tanglehouse_k57_whole_glued_in_either_or
set_option Elab.async false
set_option linter.all false
set_option maxRecDepth 100000
namespace L2
open PySem PySem.Spec PyProof.Rows
abbrev Key := Sum Int Str
def keyIs : Key → Value → Bool
  | .inl k, v => Value.isInt k v
  | .inr x, v => Value.isStrOf x v
def keyH (w : World) : Key → Int
  | .inl k => hashInt k
  | .inr x => hashStr w x
theorem keyIs_shape : ∀ {k : Key} {v : Value}, keyIs k v = true → (∃ i t, k = Sum.inl i ∧ v = Value.int i t) ∨ (∃ x t, k = Sum.inr x ∧ v = Value.str x t)
  | .inl i, v, h => by
    obtain ⟨t, e⟩ := Value.isInt_shape (k := i) (v := v) h
    exact .inl ⟨i, t, rfl, e⟩
  | .inr x, v, h => by
    obtain ⟨t, e⟩ := Value.isStrOf_shape (x := x) (v := v) h
    exact .inr ⟨x, t, rfl, e⟩
theorem keyIs_int (i : Int) (t : Tok) : keyIs (.inl i) (.int i t) = true := by simp [keyIs, Value.isInt]
theorem keyIs_str (x : Str) (t : Tok) : keyIs (.inr x) (.str x t) = true := by simp [keyIs, Value.isStrOf]
theorem key_ll (a b : Int) : decide ((Sum.inl a : Key) = Sum.inl b) = (a == b) := by
  by_cases e : a = b
  · subst e; simp
  · have h : ¬ (Sum.inl a : Key) = Sum.inl b := fun q => e (Sum.inl.inj q)
    rw [decide_eq_false h]
    exact (beq_eq_false_iff_ne.mpr e).symm
theorem key_rr (a b : Str) : decide ((Sum.inr a : Key) = Sum.inr b) = decide (a = b) := by
  by_cases e : a = b
  · subst e; simp
  · have h : ¬ (Sum.inr a : Key) = Sum.inr b := fun q => e (Sum.inr.inj q)
    rw [decide_eq_false h, decide_eq_false e]
theorem key_lr (a : Int) (b : Str) : decide ((Sum.inl a : Key) = Sum.inr b) = false := decide_eq_false (fun q => nomatch q)
theorem key_rl (a : Str) (b : Int) : decide ((Sum.inr a : Key) = Sum.inl b) = false := decide_eq_false (fun q => nomatch q)
def mixKind (prog : Program) (w : World) : PySem.KeyKind prog w Key where
  is := keyIs
  hash := keyH w
  inj := fun v a b ha hb => by
    rcases keyIs_shape ha with ⟨i, t, rfl, rfl⟩ | ⟨x, t, rfl, rfl⟩
    · rcases keyIs_shape hb with ⟨j, u, rfl, e⟩ | ⟨y, u, rfl, e⟩
      · injection e with e1 _; rw [e1]
      · exact nomatch e
    · rcases keyIs_shape hb with ⟨j, u, rfl, e⟩ | ⟨y, u, rfl, e⟩
      · exact nomatch e
      · injection e with e1 _; rw [e1]
  byValue := fun k v h => by
    rcases keyIs_shape h with ⟨i, t, rfl, rfl⟩ | ⟨x, t, rfl, rfl⟩ <;> rfl
  pyHash := fun hv h => by
    rcases keyIs_shape hv with ⟨i, t, rfl, rfl⟩ | ⟨x, t, rfl, rfl⟩
    · exact wpAny_pyHash_int h
    · exact wpAny_pyHash_str h
  eqBool := fun hu hv h => by
    rcases keyIs_shape hu with ⟨i, t, rfl, rfl⟩ | ⟨x, t, rfl, rfl⟩
    · rcases keyIs_shape hv with ⟨j, u, rfl, rfl⟩ | ⟨y, u, rfl, rfl⟩
      · rw [key_ll] at h; exact wpAny_eqBool_int h
      · rw [key_lr] at h; exact SeqAt.EqAt.int_str i t y u _ _ _ _ h
    · rcases keyIs_shape hv with ⟨j, u, rfl, rfl⟩ | ⟨y, u, rfl, rfl⟩
      · rw [key_rl] at h; exact SeqAt.EqAt.str_int x t j u _ _ _ _ h
      · rw [key_rr] at h; exact wpAny_eqBool_str h
  «strs» := fun k x t v h => by
    rcases keyIs_shape h with ⟨i, u, rfl, e⟩ | ⟨y, u, rfl, e⟩
    · exact nomatch e
    · injection e with e1 _
      subst e1
      cases v <;> rfl
theorem mixKind_is (prog : Program) (w : World) (k : Key) (v : Value) : (mixKind prog w).is k v = keyIs k v := rfl
theorem mixKind_int (prog : Program) (w : World) (i : Int) (t : Tok) : (mixKind prog w).is (.inl i) (.int i t) = true := keyIs_int i t
theorem mixKind_str (prog : Program) (w : World) (x : Str) (t : Tok) : (mixKind prog w).is (.inr x) (.str x t) = true := keyIs_str x t
end L2
namespace L2
open PySem PySem.Spec PyProof.Rows
inductive V where
  | non | bl (b : Bool) | int (i : Int) | str (x : Str) | byt (b : Array UInt8) | flt (b : UInt64) | ref (a : Addr) | ty (n : String)
  deriving DecidableEq
def RelV : V → Value → Prop
  | .non, u => u = Value.none
  | .bl b, u => u = Value.bool b
  | .int i, u => ∃ t, u = Value.int i t
  | .str x, u => ∃ t, u = Value.str x t
  | .byt b, u => ∃ t, u = Value.bytes b t
  | .flt b, u => ∃ t, u = Value.float b t
  | .ref a, u => u = Value.ref a
  | .ty n, u => u = Value.type n
abbrev Vals : List V → List Value → Prop := Paired RelV
theorem Vals.length {xs : List V} {us : List Value} (r : Vals xs us) : xs.length = us.length := Paired.length r
theorem Vals.get : ∀ {xs : List V} {us : List Value} {i : Nat} {x : V}, Vals xs us → xs[i]? = some x → ∃ u, us[i]? = some u ∧ RelV x u
  | _, _, _, _, .nil, e => by simp at e
  | _, _, 0, _, .cons r _, e => by simp at e; subst e; exact ⟨_, rfl, r⟩
  | _, _, i + 1, x, .cons _ t, e => by
    obtain ⟨u, h1, h2⟩ := Vals.get (i := i) (x := x) t (by simpa using e)
    exact ⟨u, by simpa using h1, h2⟩
theorem Vals.set {x : V} {u : Value} (r : RelV x u) : ∀ {xs : List V} {us : List Value} (i : Nat), Vals xs us → Vals (xs.set i x) (us.set i u)
  | _, _, _, .nil => .nil
  | _, _, 0, .cons _ t => .cons r t
  | _, _, i + 1, .cons q t => .cons q (Vals.set r i t)
theorem Vals.append : ∀ {xs ys : List V} {us ws : List Value}, Vals xs us → Vals ys ws → Vals (xs ++ ys) (us ++ ws)
  | _, _, _, _, .nil, s => s
  | _, _, _, _, .cons r t, s => .cons r (Vals.append t s)
theorem Vals.take : ∀ {xs : List V} {us : List Value} (n : Nat), Vals xs us → Vals (xs.take n) (us.take n)
  | _, _, 0, _ => .nil
  | _, _, _ + 1, .nil => .nil
  | _, _, n + 1, .cons r t => .cons r (Vals.take n t)
theorem Vals.drop : ∀ {xs : List V} {us : List Value} (n : Nat), Vals xs us → Vals (xs.drop n) (us.drop n)
  | _, _, 0, r => r
  | _, _, _ + 1, .nil => .nil
  | _, _, n + 1, .cons _ t => Vals.drop n t
def RelO : Option V → Option Value → Prop
  | some v, some u => RelV v u
  | none, none => True
  | _, _ => False
def KV {κ : Type} : List (κ × V) → List (κ × Value) → Prop := Paired fun (p : κ × V) (q : κ × Value) => p.1 = q.1 ∧ RelV p.2 q.2
def kV : Key → V
  | .inl i => .int i
  | .inr x => .str x
inductive HO where
  /-- a list -/
  | lst (xs : List V)
  /-- a tuple (never changes) -/
  | tup (xs : List V)
  /-- a dict whose keys are ints and texts; one whose keys are tuples of ints and texts (the empty one is both) -/
  | dK (kvs : List (Key × V)) | dT (kvs : List (List Key × V))
  /-- a set of ints: its members, its size -/
  | set (S : Int → Bool) (n : Nat)
  /-- an instance of the class at C, its dict at dx, its attributes -/
  | ins (C dx : Addr) (fs : List (Str × V))
  /-- the dict of the instance at x -/
  | own (x : Addr)
  /-- the dict of an exception -/
  | xd (fs : List (Str × V))
  /-- a bound method, f of x -/
  | met (f x : Addr)
  /-- a range object lo, lo + 1, .. below hi -/
  | rng (lo hi : Int)
  /-- a thing that is known to the object (the script; a dict while a loop walks it): read, never written while it is so -/
  | frz (o : Obj) (u : HO)
  /-- a code object's table -/
  | tbl (ps : Array Value)
  /-- any other thing, by what is true of its one object (a def of one's own: SetO a S n := HO.ext fun h => ..) -/
  | ext (φ : Heap → Prop)
abbrev Hp := Addr → Option HO
def upd (H : Hp) (a : Addr) (o : HO) : Hp := fun b => if b = a then some o else H b
theorem upd_same {H : Hp} {a : Addr} {o : HO} : upd H a o a = some o := by unfold upd; rw [if_pos rfl]
theorem upd_ne {H : Hp} {a b : Addr} {o : HO} (h : b ≠ a) : upd H a o b = H b := by unfold upd; rw [if_neg h]
theorem ne_of {H : Hp} {a b : Addr} {o u : HO} (h : H a = some o) (h' : H b = some u) (d : o ≠ u) : a ≠ b := by
  intro e; subst e; rw [h] at h'; exact d (Option.some.inj h')
theorem ne_of_none {H : Hp} {a b : Addr} {o : HO} (h : H a = some o) (h' : H b = none) : a ≠ b := by
  intro e; subst e; rw [h] at h'; cases h'
section
variable (P : Program) (w : World)
def ObjOk (H : Hp) (h : Heap) (a : Addr) : HO → Prop
  | .lst xs => xs.length ≤ sizeLine ∧ ∃ (its : List Value) (n : Nat), Vals xs its ∧ h.get? a = some { cls := .type "list", data := .seq its.toArray n }
  | .tup xs => xs.length ≤ sizeLine ∧ ∃ its : List Value, Vals xs its ∧ IsTup h a its.toArray
  | .dK kvs => kvs.length ≤ sizeLine ∧ (a == sysModules) = false ∧ ∃ vs, KV kvs vs ∧ h.DictOf (mixKind P w) a vs
  | .dT kvs => kvs.length ≤ sizeLine ∧ (a == sysModules) = false ∧ ∃ xs : List (List Key × Addr × Value),
      Paired (fun (p : List Key × V) (q : List Key × Addr × Value) => p.1 = q.1 ∧ H q.2.1 = some (.tup (p.1.map kV)) ∧ RelV p.2 q.2.2) kvs xs ∧
      ∃ o es ep, h.get? a = some o ∧ o.ExactDict ∧ o.data = .dict es ep ∧ es.toList = xs.map (entryOfKey (tupleKind (mixKind P w))) ∧ (xs.map (·.1)).Nodup
  | .set S n => h.SetOf (intKind P w) a S n
  | .ins C dx fs => H dx = some (.own a) ∧ fs.length ≤ 1000 ∧ dx ≠ a ∧ h.get? a = some (PySem.W.instObj C dx) ∧
      ∃ mA, h.Ns1 dx mA ∧ (∀ f, RelO (fs.lookup f) (mA f)) ∧ PySem.Within mA (fs.map (·.1))
  | .own _ => ∃ o, h.get? a = some o
  | .xd fs => ∃ mA, h.Ns1 a mA ∧ ∀ f, RelO (fs.lookup f) (mA f)
  | .rng lo hi => ∃ t u v, h.get? a = some { cls := .type "range", data := .fields #[.int lo t, .int hi u, .int 1 v] }
  | .frz o u => h.get? a = some o ∧ ObjOk H h a u
  | .tbl ps => h.get? a = some { cls := .none, data := .fields ps }
  | .met f x => h.get? a = some (PySem.W.methodObj (.ref f) (.ref x))
  | .ext φ => φ h ∧ (∃ o, h.get? a = some o) ∧ ∀ h1 h2 : Heap, φ h1 → (∀ o, h1.get? a = some o → h2.get? a = some o) → φ h2
def HOk (H : Hp) (h : Heap) : Prop := ∀ a o, H a = some o → ObjOk P w H h a o
end
section
variable {P : Program} {w : World} {H H' : Hp} {h h' : Heap} {a : Addr} {o : HO}
theorem ObjOk.lt (x : ObjOk P w H h a o) : a < h.objs.size := by
  cases o with
  | lst xs => obtain ⟨_, _, _, _, e⟩ := x; exact Heap.lt_size e
  | tup xs => obtain ⟨_, _, _, p⟩ := x; exact p.lt
  | dK kvs => obtain ⟨_, _, _, _, o, _, _, e, _⟩ := x; exact Heap.lt_size e
  | dT kvs => obtain ⟨_, _, _, _, o, _, _, e, _⟩ := x; exact Heap.lt_size e
  | set S n => obtain ⟨o, _, _, _, e, _⟩ := x; exact Heap.lt_size e
  | ins C dx fs => obtain ⟨_, _, _, e, _⟩ := x; exact Heap.lt_size e
  | own y => obtain ⟨_, e⟩ := x; exact Heap.lt_size e
  | xd fs => obtain ⟨_, ⟨_, _, _, e, _⟩, _⟩ := x; exact Heap.lt_size e
  | rng lo hi => obtain ⟨_, _, _, e⟩ := x; exact Heap.lt_size e
  | frz ob u => obtain ⟨e, _⟩ := x; exact Heap.lt_size e
  | tbl ps => exact Heap.lt_size (show h.get? a = some _ from x)
  | met f y => exact Heap.lt_size (show h.get? a = some _ from x)
  | ext φ => obtain ⟨_, ⟨_, e⟩, _⟩ := x; exact Heap.lt_size e
theorem Paired.mapP {α β : Type} {F G : α → β → Prop} : ∀ {l₁ : List α} {l₂ : List β}, Paired F l₁ l₂ → (∀ a b, F a b → G a b) → Paired G l₁ l₂
  | _, _, .nil, _ => .nil
  | _, _, .cons r t, f => .cons (f _ _ r) (Paired.mapP t f)
theorem ObjOk.stay (x : ObjOk P w H h a o) (k : ∀ b u, (b = a ∨ H b = some (.own a)) → h.get? b = some u → h'.get? b = some u)
    (ho : ∀ b, H b = some (.own a) → H' b = some (.own a)) (ht : ∀ b xs, H b = some (.tup xs) → H' b = some (.tup xs)) : ObjOk P w H' h' a o := by
  induction o with
  | lst xs => obtain ⟨z, its, n, r, e⟩ := x; exact ⟨z, its, n, r, k _ _ (.inl rfl) e⟩
  | tup xs => obtain ⟨z, its, r, ob, e, c⟩ := x; exact ⟨z, its, r, ob, k _ _ (.inl rfl) e, c⟩
  | dK kvs => obtain ⟨z, y, vs, r, ob, es, ep, e, c⟩ := x; exact ⟨z, y, vs, r, ob, es, ep, k _ _ (.inl rfl) e, c⟩
  | dT kvs =>
    obtain ⟨z, y, xs, r, ob, es, ep, e, c⟩ := x
    exact ⟨z, y, xs, Paired.mapP r fun p q z => ⟨z.1, ht _ _ z.2.1, z.2.2⟩, ob, es, ep, k _ _ (.inl rfl) e, c⟩
  | set S n => obtain ⟨ob, es, ep, t, e, c⟩ := x; exact ⟨ob, es, ep, t, k _ _ (.inl rfl) e, c⟩
  | ins C dx fs =>
    obtain ⟨d, z, ne, e, mA, ⟨od, es, ep, e2, c⟩, r⟩ := x
    exact ⟨ho _ d, z, ne, k _ _ (.inl rfl) e, mA, ⟨od, es, ep, k _ _ (.inr d) e2, c⟩, r⟩
  | own y => obtain ⟨ob, e⟩ := x; exact ⟨ob, k _ _ (.inl rfl) e⟩
  | xd fs => obtain ⟨mA, ⟨od, es, ep, e, c⟩, r⟩ := x; exact ⟨mA, ⟨od, es, ep, k _ _ (.inl rfl) e, c⟩, r⟩
  | rng lo hi => obtain ⟨t, u, v, e⟩ := x; exact ⟨t, u, v, k _ _ (.inl rfl) e⟩
  | frz ob u ih => obtain ⟨e, q⟩ := x; exact ⟨k _ _ (.inl rfl) e, ih q⟩
  | tbl ps =>
    have e : h.get? a = some { cls := .none, data := .fields ps } := x
    show h'.get? a = some { cls := .none, data := .fields ps }
    exact k a _ (.inl rfl) e
  | met f y =>
    have e : h.get? a = some (PySem.W.methodObj (.ref f) (.ref y)) := x
    show h'.get? a = some (PySem.W.methodObj (.ref f) (.ref y))
    exact k a _ (.inl rfl) e
  | ext φ => obtain ⟨p, ⟨o, e⟩, st⟩ := x; exact ⟨st _ _ p fun o q => k _ _ (.inl rfl) q, ⟨o, k _ _ (.inl rfl) e⟩, st⟩
theorem HOk.lt (x : HOk P w H h) (e : H a = some o) : a < h.objs.size := (x a o e).lt
theorem HOk.fresh (x : HOk P w H h) (e : h.objs.size ≤ a) : H a = none := by
  cases q : H a with
  | none => rfl
  | some u => exact absurd (Nat.lt_of_lt_of_le (x.lt q) e) (Nat.lt_irrefl _)
theorem HOk.kept (x : HOk P w H h) (k : ∀ b u, h.get? b = some u → h'.get? b = some u) : HOk P w H h' := fun a o e =>
  (x a o e).stay (fun b u _ q => k b u q) (fun _ q => q) fun _ _ q => q
theorem HOk.laid (x : HOk P w H h) (k : ∀ b u, h.get? b = some u → h'.get? b = some u) (hp : h.objs.size ≤ a) (new : ObjOk P w (upd H a o) h' a o) : HOk P w (upd H a o) h' := fun b u e => by
  have hn := x.fresh hp
  by_cases hb : b = a
  · subst hb; rw [upd_same] at e; cases e; exact new
  · rw [upd_ne hb] at e
    exact (x b u e).stay (fun c v _ q => k c v q) (fun c q => by rw [upd_ne (ne_of_none q hn)]; exact q) fun c xs q => by rw [upd_ne (ne_of_none q hn)]; exact q
end
def Rd (H : Hp) (a : Addr) (u : HO) : Prop := H a = some u ∨ ∃ o, H a = some (.frz o u)
theorem Rd.of {H : Hp} {a : Addr} {u : HO} (h : H a = some u) : Rd H a u := .inl h
theorem Rd.ok {P : Program} {w : World} {H : Hp} {h : Heap} {a : Addr} {u : HO} (r : Rd H a u) (x : HOk P w H h) : ObjOk P w H h a u := by
  rcases r with r | ⟨o, r⟩
  · exact x a u r
  · obtain ⟨_, q⟩ := x a _ r
    exact q
def Mut : Option HO → Prop
  | some (.lst _) => True
  | some (.dK _) => True
  | some (.dT _) => True
  | some (.set _ _) => True
  | some (.ins _ _ _) => True
  | some (.ext _) => True
  | _ => False
section
variable {P : Program} {w : World} {H : Hp} {h h' : Heap} {x e : Addr} {o' : HO}
theorem HOk.write (ok : HOk P w H h) (mu : Mut (H x)) (he : e = x ∨ H e = some (.own x)) (k : ∀ b u, b ≠ e → h.get? b = some u → h'.get? b = some u) (heo : ∃ u, h'.get? e = some u)
    (new : ObjOk P w (upd H x o') h' x o') : HOk P w (upd H x o') h' := fun b u q => by
  have nown : ∀ c y, H c = some (.own y) → c ≠ x := fun c y r z => by subst z; rw [r] at mu; exact mu
  have ntup : ∀ c xs, H c = some (.tup xs) → c ≠ x := fun c xs r z => by subst z; rw [r] at mu; exact mu
  by_cases hb : b = x
  · subst hb; rw [upd_same] at q; cases q; exact new
  · rw [upd_ne hb] at q
    by_cases hbe : b = e
    · have q' : H b = some (.own x) := by
        rcases he with z | z
        · exact absurd (hbe.trans z) hb
        · rw [hbe]; exact z
      rw [q] at q'; cases q'
      obtain ⟨v, hv⟩ := heo
      exact ⟨v, by rw [hbe]; exact hv⟩
    · refine (ok b u q).stay (fun c v hc r => k c v ?_ r) (fun c r => by rw [upd_ne (nown c b r)]; exact r) fun c xs r => by rw [upd_ne (ntup c xs r)]; exact r
      rcases hc with rfl | hc
      · exact hbe
      · rintro rfl
        rcases he with z | z
        · exact nown c b hc z
        · rw [hc] at z; cases z; exact hb rfl
end
structure Un (fs ex : List Addr) (H H' : Hp) (h h' : Heap) : Prop where
  keep : ∀ b o, h.get? b = some o → H b = none → b ∉ fs → b ∉ ex → h'.get? b = some o
  slot : ∀ b o, h.get? b = some o → H b = none → b ∈ fs → b ∉ ex → ∃ sl, h'.get? b = some { o with slots := sl }
  free : ∀ b o, h.get? b = some o → H b = none → b ∉ ex → H' b = none
  there : ∀ b o, h.get? b = some o → b ∉ ex → ∃ o', h'.get? b = some o'
  tups : ∀ b xs, H b = some (.tup xs) → H' b = some (.tup xs)
  frzs : ∀ b o u, H b = some (.frz o u) → H' b = some (.frz o u)
  tbls : ∀ b ps, H b = some (.tbl ps) → ∃ more, H' b = some (.tbl (ps ++ more))
section
variable {fs fs' ex ex' : List Addr} {H H1 H2 : Hp} {h h1 h2 h' : Heap} {a x e : Addr} {o : HO}
theorem Un.any (u : Un fs ex H H1 h h1) {b : Addr} {ob : Obj} (q : h.get? b = some ob) (n : H b = none) (hx : b ∉ ex) : ∃ sl, h1.get? b = some { ob with slots := sl } := by
  by_cases hb : b ∈ fs
  · exact u.slot b ob q n hb hx
  · exact ⟨ob.slots, u.keep b ob q n hb hx⟩
theorem Un.trans (a : Un fs ex H H1 h h1) (b : Un fs ex H1 H2 h1 h2) : Un fs ex H H2 h h2 where
  keep := fun c ob q n hc hx => b.keep c ob (a.keep c ob q n hc hx) (a.free c ob q n hx) hc hx
  slot := fun c ob q n hc hx => by
    obtain ⟨sl, e1⟩ := a.slot c ob q n hc hx
    obtain ⟨sl', e2⟩ := b.slot c _ e1 (a.free c ob q n hx) hc hx
    exact ⟨sl', e2⟩
  free := fun c ob q n hx => by
    obtain ⟨o', e1⟩ := a.there c ob q hx
    exact b.free c o' e1 (a.free c ob q n hx) hx
  there := fun c ob q hx => by
    obtain ⟨o', e1⟩ := a.there c ob q hx
    exact b.there c o' e1 hx
  tups := fun c xs q => b.tups c xs (a.tups c xs q)
  frzs := fun c ob xs q => b.frzs c ob xs (a.frzs c ob xs q)
  tbls := fun c ps q => by
    obtain ⟨m1, e1⟩ := a.tbls c ps q
    obtain ⟨m2, e2⟩ := b.tbls c _ e1
    exact ⟨m1 ++ m2, by rw [e2, Array.append_assoc]⟩
theorem Un.kept (k : ∀ b u, h.get? b = some u → h'.get? b = some u) : Un fs ex H H h h' :=
  ⟨fun b ob q _ _ _ => k b ob q, fun b ob q _ _ _ => ⟨ob.slots, k b ob q⟩, fun _ _ _ n _ => n, fun b ob q _ => ⟨ob, k b ob q⟩, fun _ _ q => q, fun _ _ _ q => q, fun _ ps q => ⟨#[], by rw [q]; simp⟩⟩
theorem Un.refl : Un fs ex H H h h := Un.kept fun _ _ q => q
theorem Un.laid (k : ∀ b u, h.get? b = some u → h'.get? b = some u) (hp : h.objs.size ≤ a) (hn : H a = none) : Un fs ex H (upd H a o) h h' where
  keep := fun b u q _ _ _ => k b u q
  slot := fun b u q _ _ _ => ⟨u.slots, k b u q⟩
  free := fun b u q n _ => by rw [upd_ne (Nat.ne_of_lt (Nat.lt_of_lt_of_le (Heap.lt_size q) hp))]; exact n
  there := fun b u q _ => ⟨u, k b u q⟩
  tups := fun b xs q => by rw [upd_ne (ne_of_none q hn)]; exact q
  frzs := fun b u xs q => by rw [upd_ne (ne_of_none q hn)]; exact q
  tbls := fun b ps q => ⟨#[], by rw [upd_ne (ne_of_none q hn), q]; simp⟩
theorem Un.write (mu : Mut (H x)) (he : e = x ∨ H e = some (.own x)) (k : ∀ b u, b ≠ e → h.get? b = some u → h'.get? b = some u) (heo : ∃ u, h'.get? e = some u) : Un fs ex H (upd H x o) h h' := by
  have hx : ∀ b, H b = none → b ≠ x := fun b n z => by subst z; rw [n] at mu; exact mu
  have hb : ∀ b, H b = none → b ≠ e := fun b n z => by
    subst z
    rcases he with r | r
    · exact hx b n r
    · rw [n] at r; cases r
  have hm : ∀ b u, H b = some u → ¬ Mut (some u) → b ≠ x := fun b u q nm z => by subst z; rw [q] at mu; exact nm mu
  refine ⟨fun b u q n _ _ => k b u (hb b n) q, fun b u q n _ _ => ⟨u.slots, k b u (hb b n) q⟩, fun b u q n _ => by rw [upd_ne (hx b n)]; exact n, fun b u q _ => ?_,
    fun b xs q => by rw [upd_ne (hm b _ q fun z => z)]; exact q, fun b u xs q => by rw [upd_ne (hm b _ q fun z => z)]; exact q, fun b ps q => ⟨#[], by rw [upd_ne (hm b _ q fun z => z), q]; simp⟩⟩
  by_cases hbe : b = e
  · subst hbe; exact heo
  · exact ⟨u, k b u hbe q⟩
theorem Un.mono (u : Un fs ex H H1 h h1) (hs : ∀ b ∈ fs, b ∈ fs') (hx : ∀ b ∈ ex, b ∈ ex') : Un fs' ex' H H1 h h1 :=
  ⟨fun b ob q n hb he => u.keep b ob q n (fun z => hb (hs b z)) fun z => he (hx b z), fun _ _ q n _ he => u.any q n fun z => he (hx _ z), fun b ob q n he => u.free b ob q n fun z => he (hx b z), fun b ob q he => u.there b ob q fun z => he (hx b z), u.tups, u.frzs, u.tbls⟩
end
def trk (h : Heap) (H : Hp) : List Addr := (List.range h.objs.size).filter fun a => (H a).isSome
def hidT (h : Heap) (H : Hp) : Heap := PySem.W.hideAll h (trk h H)
theorem hidT_size (h : Heap) (H : Hp) : (hidT h H).objs.size = h.objs.size := PySem.W.hideAll_size _ _
theorem hidT_get {h : Heap} {H : Hp} {b : Addr} {o : Obj} (e : h.get? b = some o) (n : H b = none) : (hidT h H).get? b = some o :=
  PySem.W.hideAll_get _ e fun hm => by
    have q : (H b).isSome = true := (List.mem_filter.mp hm).2
    rw [n] at q; simp at q
theorem of_hidT {h : Heap} {H : Hp} {b : Addr} {o : Obj} (e : (hidT h H).get? b = some o) : h.get? b = some o ∧ H b = none := by
  have e' : h.get? b = some o := PySem.W.of_hideAll (trk h H) e
  refine ⟨e', ?_⟩
  cases q : H b with
  | none => rfl
  | some x =>
    have hm : b ∈ trk h H := List.mem_filter.mpr ⟨List.mem_range.mpr (Heap.lt_size e'), by simp [q]⟩
    have z : (hidT h H).get? b = none := PySem.W.hideAll_none (trk h H) hm
    rw [z] at e; cases e
def allNews (g h : Heap) (L : Addr) : List (Addr × Obj) := (List.range h.objs.size).filterMap fun a => if a = L ∨ (g.get? a).isSome = true then none else (h.get? a).map fun o => (a, o)
def rest (g h : Heap) (L d : Addr) : List (Addr × Obj) := (allNews g h L).filter fun p => decide (p.1 ≠ d)
end L2
namespace L2
open PySem PySem.Spec PyProof.Rows
structure Mod (K : PySem.W.Frag) (mg : Str → Option Value) (base : Heap) : Prop where
  kin : K.In base
  glob : base.Ns mainGlobals mg
  blt : ∃ mb, base.Ns builtinsNs mb ∧ ∀ x : Str, x ≠ "__name__" → mb x = bootBuiltins x
  nolimit : base.NoLimit
structure Cx where
  prog : Program
  w : World
  K : PySem.W.Frag
  mg : Str → Option Value
  base : Heap
  A : Around
  N : List Str
  s₀ : Shared
  H₀ : Hp
  env : Env
  outer : List Env
  stack : List Env
  ex : List Addr
  fn : Str → Bool
  calm : Bool
  pn : List (Addr × Obj)
  xe : Value → Shared → Prop
def frs (l : List Env) : List Addr := l.filterMap (·.frame)
abbrev Cx.fs (X : Cx) : List Addr := frs X.outer
def Vis (sc : Scope) (x : Str) : Prop := sc.names.lookup x = some .local ∨ sc.names.lookup x = some .cell ∨ sc.names.lookup x = some .free
def Loc (sc : Scope) (x : Str) : Prop := sc.names.lookup x = some .local ∨ sc.names.lookup x = some .cell
def Look (env : Env) (h : Heap) (m : Str → Option Value) (x : Str) (u : Value) : Prop :=
  (env.kindOf x = some .local ∧ m x = some u) ∨ ((env.kindOf x = some .cell ∨ env.kindOf x = some .free) ∧ ∃ c, env.cells.lookup x = some c ∧ h.IsCell c (some u))
structure Cx.Ok (X : Cx) : Prop where
  mod : Mod X.K X.mg X.base
  kind : X.env.scope.kind = .function
  glob : X.env.globals = mainGlobals
  blt : X.env.builtins = builtinsNs
  above : X.s₀.heap.objs.size ≤ X.env.locals
  inj : ∀ x y c, X.env.cells.lookup x = some c → X.env.cells.lookup y = some c → x = y
  has : ∀ x, (X.env.kindOf x = some .cell ∨ X.env.kindOf x = some .free) → ∃ c, X.env.cells.lookup x = some c
  cab : ∀ x c, X.fn x = true → X.env.cells.lookup x = some c → X.s₀.heap.objs.size ≤ c
  hd : X.calm = true → X.A.handled = none
  frames : X.A.frames = some X.stack
  stk : X.stack = X.outer ∨ (X.stack = X.env :: X.outer ∧ X.env.frame = some X.env.locals)
  exf : ∀ b ∈ X.ex, b ≠ X.env.locals ∧ ∀ x c, X.env.cells.lookup x = some c → c ≠ b
  bs : ∀ b o, X.base.get? b = some o → X.s₀.heap.get? b = some o ∧ X.H₀ b = none
  bsz : X.base.objs.size ≤ X.s₀.heap.objs.size
  noex : ∀ b o, X.base.get? b = some o → b ∉ X.ex
  exfs : ∀ b ∈ X.ex, b ∉ X.fs
  funs : X.s₀.heap.FunFrames X.base X.outer
  frf : ∀ b ∈ X.fs, X.H₀ b = none
structure Inv (X : Cx) (pins : List (Addr × Obj)) (σ : List (Option V)) (H : Hp) (s : Shared) : Prop where
  ok : X.Ok
  os : s.os = X.s₀.os
  bare : AllBare s.gens
  base : Un X.fs X.ex X.H₀ H X.s₀.heap s.heap
  loc : ∃ m, s.heap.Ns X.env.locals m ∧ ∀ (i : Nat) (x : Str) (v : V), X.N[i]? = some x → σ[i]? = some (some v) → Vis X.env.scope x → ∃ u, RelV v u ∧ Look X.env s.heap m x u
  cell : ∀ x c, X.env.cells.lookup x = some c → ∃ v, s.heap.IsCell c v
  free : H X.env.locals = none
  freeC : ∀ x c, X.env.cells.lookup x = some c → H c = none
  pin : ∀ p ∈ X.pn ++ pins, s.heap.get? p.1 = some p.2 ∧ H p.1 = none ∧ p.1 ≠ X.env.locals ∧ p.1 ∉ X.fs ∧ ∀ v, p.2.data ≠ .cell v
  hok : HOk X.prog X.w H s.heap
  len : σ.length = X.N.length
section
variable {X : Cx} {pins : List (Addr × Obj)} {σ : List (Option V)} {H H' : Hp} {s : Shared} {h' : Heap}
theorem Cx.Ok.nofr (ok : X.Ok) {b : Addr} {o : Obj} (e : X.base.get? b = some o) : b ∉ X.fs := fun hb => by
  have := (ok.funs.mem hb).1
  rw [e] at this; cases this
theorem Inv.bs (I : Inv X pins σ H s) : ∀ b o, X.base.get? b = some o → s.heap.get? b = some o ∧ H b = none := fun b o e =>
  ⟨I.base.keep b o (I.ok.bs b o e).1 (I.ok.bs b o e).2 (I.ok.nofr e) (I.ok.noex b o e), I.base.free b o (I.ok.bs b o e).1 (I.ok.bs b o e).2 (I.ok.noex b o e)⟩
theorem Inv.bk (I : Inv X pins σ H s) : ∀ b o, X.base.get? b = some o → s.heap.get? b = some o := fun b o e => (I.bs b o e).1
theorem Inv.mod (I : Inv X pins σ H s) : Mod X.K X.mg X.base := I.ok.mod
theorem Inv.kIn (I : Inv X pins σ H s) : X.K.In s.heap := I.ok.mod.kin.keeps I.bk
theorem Inv.nolimit (I : Inv X pins σ H s) : s.heap.NoLimit := I.ok.mod.nolimit.keeps I.bk
theorem Inv.fr (I : Inv X pins σ H s) : ∃ m, Fr X.base X.env.locals s.heap m :=
  let ⟨m, hn, _⟩ := I.loc
  ⟨m, hn, I.bk, Nat.le_trans I.ok.bsz I.ok.above⟩
theorem Inv.lt (I : Inv X pins σ H s) : X.env.locals < s.heap.objs.size := let ⟨_, hn, _⟩ := I.loc; hn.lt
theorem Inv.sz (I : Inv X pins σ H s) : X.s₀.heap.objs.size ≤ s.heap.objs.size := Nat.le_trans I.ok.above (Nat.le_of_lt I.lt)
theorem Inv.nofs (I : Inv X pins σ H s) {a : Addr} (h : s.heap.objs.size ≤ a) : a ∉ X.fs := fun hb => by
  obtain ⟨_, o, ho, _⟩ := I.ok.funs.mem hb
  exact absurd (Nat.lt_of_lt_of_le (Heap.lt_size ho) (Nat.le_trans I.sz h)) (Nat.lt_irrefl _)
theorem Inv.cne (I : Inv X pins σ H s) : ∀ x c, X.env.cells.lookup x = some c → c ≠ X.env.locals := fun x c e z => by
  obtain ⟨v, o, ho, hd⟩ := I.cell x c e
  obtain ⟨m, ⟨o', es, ep, ho', hd', _⟩, _⟩ := I.loc
  rw [z, ho'] at ho; cases ho; rw [hd'] at hd; cases hd
theorem Inv.funs (I : Inv X pins σ H s) : s.heap.FunFrames X.base X.outer := by
  have all : ∀ (l : List Env), (∀ b ∈ frs l, b ∈ X.fs) → X.s₀.heap.FunFrames X.base l → s.heap.FunFrames X.base l := by
    intro l
    induction l with
    | nil => intro _ _; trivial
    | cons env r ih =>
      intro hs hl
      obtain ⟨hk, ⟨L, o, hf, hn, ho, hd⟩, hr⟩ := hl
      have hL : L ∈ X.fs := hs L (by unfold frs; rw [List.filterMap_cons, hf]; exact List.mem_cons_self)
      obtain ⟨sl, e⟩ := I.base.slot L o ho (I.ok.frf L hL) hL fun z => I.ok.exfs L z hL
      exact ⟨hk, ⟨L, _, hf, hn, e, hd⟩, ih (fun b hb => hs b (by unfold frs; rw [List.filterMap_cons, hf]; exact List.mem_cons_of_mem _ hb)) hr⟩
  exact all X.outer (fun _ hb => hb) I.ok.funs
theorem Inv.stack (I : Inv X pins σ H s) : s.heap.FunFrames X.base X.stack := by
  rcases I.ok.stk with e | ⟨e, hf⟩
  · rw [e]; exact I.funs
  · rw [e]
    obtain ⟨m, hn, _⟩ := I.loc
    refine .cons (by rw [I.ok.kind]; decide) hf hn ?_ I.funs
    exact Heap.get?_none_of_le (Nat.le_trans I.ok.bsz I.ok.above)
theorem Inv.stkSub (I : Inv X pins σ H s) : ∀ b ∈ frs X.stack, b ∈ X.env.locals :: X.fs := fun b hb => by
  rcases I.ok.stk with e | ⟨e, hf⟩
  · rw [e] at hb; exact List.mem_cons_of_mem _ hb
  · rw [e] at hb
    unfold frs at hb
    rw [List.filterMap_cons, hf] at hb
    exact hb
theorem Inv.stkFree (I : Inv X pins σ H s) : ∀ b ∈ frs X.stack, H b = none := fun b hb => by
  rcases List.mem_cons.mp (I.stkSub b hb) with e | hb
  · rw [e]; exact I.free
  · obtain ⟨_, o, ho, _⟩ := I.ok.funs.mem hb
    exact I.base.free b o ho (I.ok.frf b hb) fun z => I.ok.exfs b z hb
theorem Inv.step {g' : Array GenState} {t' : Nat} {d' : Drawn} {ch : List Addr} (I : Inv X pins σ H s)
    (hch : ∀ b ∈ ch, (b ∈ X.ex ∨ X.s₀.heap.objs.size ≤ b) ∧ b ≠ X.env.locals ∧ (∀ x c, X.env.cells.lookup x = some c → c ≠ b) ∧ ∀ p ∈ X.pn ++ pins, p.1 ≠ b)
    (keep : ∀ b o, b ≠ X.env.locals → b ∉ X.fs → b ∉ ch → s.heap.get? b = some o → H b = none → h'.get? b = some o)
    (slot : ∀ b o, b ≠ X.env.locals → b ∈ X.fs → b ∉ ch → s.heap.get? b = some o → H b = none → ∃ sl, h'.get? b = some { o with slots := sl }) (free : ∀ b o, b ∉ ch → s.heap.get? b = some o → H b = none → H' b = none)
    (there : ∀ b o, b ∉ ch → s.heap.get? b = some o → ∃ o', h'.get? b = some o')
    (tups : ∀ b xs, H b = some (.tup xs) → H' b = some (.tup xs)) (frzs : ∀ b o u, H b = some (.frz o u) → H' b = some (.frz o u)) (tbls : ∀ b ps, H b = some (.tbl ps) → ∃ more, H' b = some (.tbl (ps ++ more)))
    (ns : ∀ m, s.heap.Ns X.env.locals m → h'.Ns X.env.locals m) (hok : HOk X.prog X.w H' h') (hg : AllBare g') :
    Inv X pins σ H' { s with heap := h', gens := g', drawn := d', toks := t' } := by
  have neL : ∀ b o, X.s₀.heap.get? b = some o → b ≠ X.env.locals := fun b o e => Nat.ne_of_lt (Nat.lt_of_lt_of_le (Heap.lt_size e) I.ok.above)
  have neC : ∀ b o, X.s₀.heap.get? b = some o → b ∉ X.ex → b ∉ ch := fun b o e hx hb => by
    rcases (hch b hb).1 with z | z
    · exact hx z
    · exact absurd (Nat.lt_of_lt_of_le (Heap.lt_size e) z) (Nat.lt_irrefl _)
  have cellK : ∀ x c, X.env.cells.lookup x = some c → ∀ v, s.heap.IsCell c v → h'.IsCell c v := fun x c e v ⟨o, ho, hd⟩ => by
    have nch : c ∉ ch := fun z => (hch c z).2.2.1 x c e rfl
    by_cases hc : c ∈ X.fs
    · obtain ⟨sl, q⟩ := slot c o (I.cne x c e) hc nch ho (I.freeC x c e)
      exact ⟨_, q, hd⟩
    · exact ⟨o, keep c o (I.cne x c e) hc nch ho (I.freeC x c e), hd⟩
  refine ⟨I.ok, I.os, hg, ⟨fun b o e n hb hx => ?_, fun b o e n hb hx => ?_, fun b o e n hx => ?_, fun b o e hx => ?_, fun b xs e => tups b xs (I.base.tups b xs e), fun b o xs e => frzs b o xs (I.base.frzs b o xs e), fun b ps e => ?_⟩, ?_, fun x c e => ?_, ?_, fun x c e => ?_, fun p hp => ?_, hok, I.len⟩
  · exact keep b o (neL b o e) hb (neC b o e hx) (I.base.keep b o e n hb hx) (I.base.free b o e n hx)
  · obtain ⟨sl, e1⟩ := I.base.slot b o e n hb hx
    obtain ⟨sl', e2⟩ := slot b _ (neL b o e) hb (neC b o e hx) e1 (I.base.free b o e n hx)
    exact ⟨sl', e2⟩
  · obtain ⟨o', e1⟩ := I.base.there b o e hx
    exact free b o' (neC b o e hx) e1 (I.base.free b o e n hx)
  · obtain ⟨o', e1⟩ := I.base.there b o e hx
    exact there b o' (neC b o e hx) e1
  · obtain ⟨m1, e1⟩ := I.base.tbls b ps e
    obtain ⟨m2, e2⟩ := tbls b _ e1
    exact ⟨m1 ++ m2, by rw [e2, Array.append_assoc]⟩
  · obtain ⟨m, hn, hl⟩ := I.loc
    refine ⟨m, ns m hn, fun i x v e1 e2 e3 => ?_⟩
    obtain ⟨u, r, l⟩ := hl i x v e1 e2 e3
    refine ⟨u, r, ?_⟩
    rcases l with l | ⟨k, c, e, z⟩
    · exact .inl l
    · exact .inr ⟨k, c, e, cellK x c e _ z⟩
  · obtain ⟨v, z⟩ := I.cell x c e
    exact ⟨v, cellK x c e v z⟩
  · obtain ⟨m, ⟨o, _, _, ho, _⟩, _⟩ := I.loc
    exact free _ o (fun z => (hch _ z).2.1 rfl) ho I.free
  · obtain ⟨v, o, ho, hd⟩ := I.cell x c e
    exact free c o (fun z => (hch c z).2.2.1 x c e rfl) ho (I.freeC x c e)
  · obtain ⟨e, n, ne, nf, d⟩ := I.pin p hp
    have nch : p.1 ∉ ch := fun z => (hch p.1 z).2.2.2 p hp rfl
    exact ⟨keep p.1 p.2 ne nf nch e n, free p.1 p.2 nch e n, ne, nf, d⟩
theorem Inv.un {t' : Nat} (I : Inv X pins σ H s) (u : Un X.fs [] H H' s.heap h') (hok : HOk X.prog X.w H' h') : Inv X pins σ H' { s with heap := h', toks := t' } := by
  obtain ⟨m, ⟨o, es, ep, ho, r⟩, _⟩ := id I.loc
  obtain ⟨sl, hL⟩ := u.any ho I.free (by simp)
  exact I.step (g' := s.gens) (d' := s.drawn) (ch := []) (fun _ z => nomatch z) (fun b o _ hb _ e n => u.keep b o e n hb (by simp)) (fun b o _ hb _ e n => u.slot b o e n hb (by simp)) (fun b o _ e n => u.free b o e n (by simp)) (fun b o _ e => u.there b o e (by simp)) u.tups u.frzs u.tbls (fun m' hm => by
    obtain ⟨o', es', ep', ho', r'⟩ := hm
    rw [ho] at ho'; cases ho'
    exact ⟨_, es', ep', hL, r'⟩) hok I.bare
theorem Inv.call {g' : Array GenState} {t' : Nat} {d' : Drawn} {ch : List Addr} (I : Inv X pins σ H s) (u : Un (frs X.stack) ch H H' s.heap h') (hok : HOk X.prog X.w H' h') (hg : AllBare g')
    (hch : ∀ b ∈ ch, (b ∈ X.ex ∨ X.s₀.heap.objs.size ≤ b) ∧ b ≠ X.env.locals ∧ (∀ x c, X.env.cells.lookup x = some c → c ≠ b) ∧ ∀ p ∈ X.pn ++ pins, p.1 ≠ b) :
    Inv X pins σ H' { s with heap := h', gens := g', drawn := d', toks := t' } := by
  obtain ⟨m, ⟨o, es, ep, ho, r⟩, _⟩ := id I.loc
  obtain ⟨sl, hL⟩ := u.any ho I.free fun z => (hch _ z).2.1 rfl
  exact I.step (ch := ch) hch (fun b o hL hb hc e n => u.keep b o e n (fun z => (List.mem_cons.mp (I.stkSub b z)).elim hL hb) hc) (fun b o _ _ hc e n => u.any e n hc) (fun b o hc e n => u.free b o e n hc) (fun b o hc e => u.there b o e hc) u.tups u.frzs u.tbls (fun m' hm => by
    obtain ⟨o', es', ep', ho', r'⟩ := hm
    rw [ho] at ho'; cases ho'
    exact ⟨_, es', ep', hL, r'⟩) hok hg
theorem Inv.turned {t' : Nat} {it : Addr} (I : Inv X pins σ H s) (k : ∀ b o, b ≠ it → s.heap.get? b = some o → h'.get? b = some o) (hn : H it = none) (hL : it ≠ X.env.locals)
    (h1 : it ∈ X.ex ∨ X.s₀.heap.objs.size ≤ it) (h2 : ∀ x c, X.env.cells.lookup x = some c → c ≠ it) (h3 : ∀ p ∈ X.pn ++ pins, p.1 ≠ it) : Inv X pins σ H { s with heap := h', toks := t' } := by
  have nit : ∀ b u, H b = some u → b ≠ it := fun b u e z => by rw [z, hn] at e; cases e
  refine I.step (g' := s.gens) (d' := s.drawn) (ch := [it]) (fun b hb => ?_) (fun b o _ _ hc e _ => k b o (fun z => hc (by simp [z])) e) (fun b o _ _ hc e _ => ⟨o.slots, k b o (fun z => hc (by simp [z])) e⟩) (fun _ _ _ _ n => n)
    (fun b o hc e => ⟨o, k b o (fun z => hc (by simp [z])) e⟩) (fun _ _ e => e) (fun _ _ _ e => e) (fun b ps e => ⟨#[], by rw [e]; simp⟩) (fun m hm => ?_) (fun b u e => ?_) I.bare
  · have e : b = it := by simpa using hb
    subst e
    exact ⟨h1, hL, h2, h3⟩
  · obtain ⟨o, es, ep, ho, r⟩ := hm
    exact ⟨o, es, ep, k _ o (Ne.symm hL) ho, r⟩
  · refine (I.hok b u e).stay (fun c v hc q => k c v ?_ q) (fun _ q => q) fun _ _ q => q
    rcases hc with z | z
    · rw [z]; exact nit b u e
    · exact nit c _ z
theorem Inv.tok (I : Inv X pins σ H s) (t : Nat) : Inv X pins σ H { s with toks := t } := I.un (h' := s.heap) (t' := t) Un.refl I.hok
theorem Inv.kept {t' : Nat} (I : Inv X pins σ H s) (k : ∀ b u, s.heap.get? b = some u → h'.get? b = some u) : Inv X pins σ H { s with heap := h', toks := t' } := I.un (Un.kept k) (I.hok.kept k)
theorem Inv.laid {a : Addr} {o : HO} {t' : Nat} (I : Inv X pins σ H s) (k : ∀ b u, s.heap.get? b = some u → h'.get? b = some u) (hp : s.heap.objs.size ≤ a) (new : ObjOk X.prog X.w (upd H a o) h' a o) :
    Inv X pins σ (upd H a o) { s with heap := h', toks := t' } := I.un (Un.laid k hp (I.hok.fresh hp)) (I.hok.laid k hp new)
theorem Inv.write {x e : Addr} {o : HO} {t' : Nat} (I : Inv X pins σ H s) (mu : Mut (H x)) (he : e = x ∨ H e = some (.own x)) (k : ∀ b u, b ≠ e → s.heap.get? b = some u → h'.get? b = some u) (heo : ∃ u, h'.get? e = some u)
    (new : ObjOk X.prog X.w (upd H x o) h' x o) : Inv X pins σ (upd H x o) { s with heap := h', toks := t' } := I.un (Un.write mu he k heo) (I.hok.write mu he k heo new)
theorem Inv.pins_of {pins' : List (Addr × Obj)} (I : Inv X pins σ H s) (h : ∀ p ∈ pins', s.heap.get? p.1 = some p.2 ∧ H p.1 = none ∧ p.1 ≠ X.env.locals ∧ p.1 ∉ X.fs ∧ ∀ v, p.2.data ≠ .cell v) : Inv X pins' σ H s :=
  ⟨I.ok, I.os, I.bare, I.base, I.loc, I.cell, I.free, I.freeC, fun p hp => (List.mem_append.mp hp).elim (fun z => I.pin p (List.mem_append_left _ z)) (h p), I.hok, I.len⟩
theorem nodup_ix {N : List Str} (hN : N.Nodup) {i j : Nat} {x : Str} (a : N[i]? = some x) (b : N[j]? = some x) : i = j := by
  obtain ⟨h1, e1⟩ := List.getElem?_eq_some_iff.mp a
  obtain ⟨h2, e2⟩ := List.getElem?_eq_some_iff.mp b
  exact (List.getElem_inj hN).mp (e1.trans e2.symm)
theorem store_ok2 {M : Model} {A : Around} {E : Value → Shared → Prop} {i : Nat} {x : Str} {v : V} {u : Value} {Q : Unit → Shared → Prop} (I : Inv X pins σ H s) (hN : X.N.Nodup) (hi : X.N[i]? = some x) (hx : Loc X.env.scope x) (r : RelV v u)
    (h : ∀ s', Inv X pins (σ.set i (some v)) H s' → (∃ a, Heap.SameBut a s.heap s'.heap ∧ (a = X.env.locals ∨ X.env.cells.lookup x = some a)) → Q () s') (hf : X.fn x = true ∨ X.env.scope.names.lookup x = some .local := by first | exact .inl rfl | exact .inr rfl | assumption) : wpAny M A (storeName X.env x u) Q E s := by
  obtain ⟨m, hn, hl⟩ := id I.loc
  have hcls : (X.env.scope.kind == .class || (X.env.scope.kind == .module && X.env.locals != X.env.globals)) = false := by rw [I.ok.kind]; rfl
  have hiσ : i < σ.length := by rw [I.len]; exact (List.getElem?_eq_some_iff.mp hi).1
  have cne := I.cne
  have tracked : ∀ {a : Addr} {h' : Heap}, (∃ o, s.heap.get? a = some o ∧ H a = none) → Heap.SameBut a s.heap h' → HOk X.prog X.w H h' := fun {a h'} ha hs b ob e => by
    obtain ⟨_, _, hfree⟩ := ha
    refine (I.hok b ob e).stay (fun c w' hc q => (hs.2 c ?_).trans q) (fun _ q => q) fun _ _ q => q
    rintro rfl
    rcases hc with rfl | hc
    · rw [hfree] at e; cases e
    · rw [hfree] at hc; cases hc
  rcases hx with hk | hk
  · refine wpAny_storeName_local hk hn (fun h' hn' hs => ?_) hcls
    obtain ⟨oL, _, _, hoL, _⟩ := id hn
    refine h _ ⟨I.ok, I.os, I.bare, ⟨fun b o e n hb hx => ?_, fun b o e n hb hx => ?_, I.base.free, fun b o e hx => ?_, I.base.tups, I.base.frzs, I.base.tbls⟩, ⟨_, hn', fun j y v' e1 e2 e3 => ?_⟩, fun y c e => ?_, I.free, I.freeC, fun p hp => ?_, tracked ⟨oL, hoL, I.free⟩ hs, by simpa using I.len⟩ ⟨_, hs, .inl rfl⟩
    · exact (hs.2 b (Nat.ne_of_lt (Nat.lt_of_lt_of_le (Heap.lt_size e) I.ok.above))).trans (I.base.keep b o e n hb hx)
    · obtain ⟨sl, e1⟩ := I.base.slot b o e n hb hx
      exact ⟨sl, (hs.2 b (Nat.ne_of_lt (Nat.lt_of_lt_of_le (Heap.lt_size e) I.ok.above))).trans e1⟩
    · obtain ⟨o', e1⟩ := I.base.there b o e hx
      exact ⟨o', (hs.2 b (Nat.ne_of_lt (Nat.lt_of_lt_of_le (Heap.lt_size e) I.ok.above))).trans e1⟩
    · by_cases hj : j = i
      · subst hj
        rw [hi] at e1; cases e1
        rw [List.getElem?_set_self hiσ] at e2
        cases e2
        exact ⟨u, r, .inl ⟨hk, by simp⟩⟩
      · rw [List.getElem?_set_ne (Ne.symm hj)] at e2
        obtain ⟨u', r', q⟩ := hl j y v' e1 e2 e3
        refine ⟨u', r', ?_⟩
        rcases q with ⟨k, e⟩ | ⟨k, c, e, z⟩
        · refine .inl ⟨k, ?_⟩
          have : y ≠ x := fun e => hj (nodup_ix hN e1 (e ▸ hi))
          simp [this, e]
        · exact .inr ⟨k, c, e, z.sameBut hs (cne y c e)⟩
    · obtain ⟨w', z⟩ := I.cell y c e
      exact ⟨w', z.sameBut hs (cne y c e)⟩
    · obtain ⟨e, n, ne, nf, d⟩ := I.pin p hp
      exact ⟨(hs.2 p.1 ne).trans e, n, ne, nf, d⟩
  · have hfn : X.fn x = true := by
      rcases hf with z | z
      · exact z
      · rw [z] at hk; cases hk
    obtain ⟨c, hc⟩ := I.ok.has x (.inl hk)
    obtain ⟨w', z⟩ := I.cell x c hc
    refine wpAny_storeName_cell I.ok.kind hk hc z (fun h' hc' hs => ?_)
    obtain ⟨oc, hoc, hocd⟩ := id z
    refine h { s with heap := h' } ⟨I.ok, I.os, I.bare, ⟨fun b o e n hb hx => ?_, fun b o e n hb hx => ?_, I.base.free, fun b o e hx => ?_, I.base.tups, I.base.frzs, I.base.tbls⟩, ⟨m, hn.sameBut hs (Ne.symm (cne x c hc)), fun j y v' e1 e2 e3 => ?_⟩, fun y c' e => ?_, I.free, I.freeC, fun p hp => ?_, tracked ⟨oc, hoc, I.freeC x c hc⟩ hs, by simpa using I.len⟩ ⟨c, hs, .inr hc⟩
    · exact (hs.2 b (Nat.ne_of_lt (Nat.lt_of_lt_of_le (Heap.lt_size e) (I.ok.cab x c hfn hc)))).trans (I.base.keep b o e n hb hx)
    · obtain ⟨sl, e1⟩ := I.base.slot b o e n hb hx
      exact ⟨sl, (hs.2 b (Nat.ne_of_lt (Nat.lt_of_lt_of_le (Heap.lt_size e) (I.ok.cab x c hfn hc)))).trans e1⟩
    · obtain ⟨o', e1⟩ := I.base.there b o e hx
      exact ⟨o', (hs.2 b (Nat.ne_of_lt (Nat.lt_of_lt_of_le (Heap.lt_size e) (I.ok.cab x c hfn hc)))).trans e1⟩
    · by_cases hj : j = i
      · subst hj
        rw [hi] at e1; cases e1
        rw [List.getElem?_set_self hiσ] at e2
        cases e2
        exact ⟨u, r, .inr ⟨.inl hk, c, hc, hc'⟩⟩
      · rw [List.getElem?_set_ne (Ne.symm hj)] at e2
        obtain ⟨u', r', q⟩ := hl j y v' e1 e2 e3
        refine ⟨u', r', ?_⟩
        rcases q with q | ⟨k, c', e, z'⟩
        · exact .inl q
        · refine .inr ⟨k, c', e, z'.sameBut hs ?_⟩
          rintro rfl
          exact hj (nodup_ix hN e1 (I.ok.inj _ _ _ e hc ▸ hi))
    · by_cases hcc : c' = c
      · subst hcc; exact ⟨_, hc'⟩
      · obtain ⟨w2, z2⟩ := I.cell y c' e
        exact ⟨w2, z2.sameBut hs hcc⟩
    · obtain ⟨e, n, ne, nf, d⟩ := I.pin p hp
      refine ⟨(hs.2 p.1 ?_).trans e, n, ne, nf, d⟩
      intro q
      rw [q, hoc] at e
      have q' : oc = p.2 := Option.some.inj e
      exact d w' (by rw [← q']; exact hocd)
theorem store_ok {M : Model} {A : Around} {E : Value → Shared → Prop} {i : Nat} {x : Str} {v : V} {u : Value} {Q : Unit → Shared → Prop} (I : Inv X pins σ H s) (hN : X.N.Nodup) (hi : X.N[i]? = some x) (hx : Loc X.env.scope x) (r : RelV v u)
    (h : ∀ s', Inv X pins (σ.set i (some v)) H s' → Q () s') (hf : X.fn x = true ∨ X.env.scope.names.lookup x = some .local := by first | exact .inl rfl | exact .inr rfl | assumption) : wpAny M A (storeName X.env x u) Q E s :=
  store_ok2 I hN hi hx r (fun s' I' _ => h s' I') hf
theorem Inv.call' {s' : Shared} {ch : List Addr} (I : Inv X pins σ H s) (ho : s'.os = s.os) (u : Un (frs X.stack) ch H H' s.heap s'.heap) (hok : HOk X.prog X.w H' s'.heap) (hg : AllBare s'.gens)
    (hch : ∀ b ∈ ch, (b ∈ X.ex ∨ X.s₀.heap.objs.size ≤ b) ∧ b ≠ X.env.locals ∧ (∀ x c, X.env.cells.lookup x = some c → c ≠ b) ∧ ∀ p ∈ X.pn ++ pins, p.1 ≠ b) : Inv X pins σ H' s' := by
  obtain ⟨h', g', d', t', o'⟩ := s'
  have e : o' = s.os := ho
  subst e
  exact I.call (g' := g') (t' := t') (d' := d') u hok hg hch
end
abbrev XK := Value → Option Addr → Hp → Prop
abbrev St := List (Option V)
abbrev VK := V → Hp → Prop
abbrev TE := St → Hp → VK → Prop
abbrev TT := St → Hp → (Bool → Hp → Prop) → Prop
abbrev TA := St → Hp → (List V → Hp → Prop) → Prop
structure Ends where
  nx : St → Hp → Prop
  rt : VK
  bk : St → Hp → Prop := fun _ _ => False
  ct : St → Hp → Prop := fun _ _ => False
abbrev TS := Ends → St → Hp → Prop
def EP (X : Cx) (pins : List (Addr × Obj)) (σ : St) (Q : VK) (u : Value) (s' : Shared) : Prop := ∃ v H', Inv X pins σ H' s' ∧ RelV v u ∧ Q v H'
def TP (X : Cx) (pins : List (Addr × Obj)) (σ : St) (Q : Bool → Hp → Prop) (b : Bool) (s' : Shared) : Prop := ∃ H', Inv X pins σ H' s' ∧ Q b H'
def AP (X : Cx) (pins : List (Addr × Obj)) (σ : St) (Q : List V → Hp → Prop) (us : List Value) (s' : Shared) : Prop := ∃ vs H', Inv X pins σ H' s' ∧ Vals vs us ∧ Q vs H'
def SP (X : Cx) (pins : List (Addr × Obj)) (D : Ends) (f : Flow) (s' : Shared) : Prop :=
  match f with
  | .next => ∃ σ' H', Inv X pins σ' H' s' ∧ D.nx σ' H'
  | .brk => ∃ σ' H', Inv X pins σ' H' s' ∧ D.bk σ' H'
  | .cont => ∃ σ' H', Inv X pins σ' H' s' ∧ D.ct σ' H'
  | .ret u => ∃ v σ' H', Inv X pins σ' H' s' ∧ RelV v u ∧ D.rt v H'
def PE (X : Cx) (e : Expr) (t : TE) : Prop :=
  ∀ (pins : List (Addr × Obj)) (s : Shared) (σ : St) (H : Hp) (Q : VK), Inv X pins σ H s → t σ H Q → wpAny (model X.prog X.w) X.A (eval e X.env) (EP X pins σ Q) X.xe s
def PT (X : Cx) (e : Expr) (t : TT) : Prop :=
  ∀ (pins : List (Addr × Obj)) (s : Shared) (σ : St) (H : Hp) (Q : Bool → Hp → Prop), Inv X pins σ H s → t σ H Q → wpAny (model X.prog X.w) X.A (isTrue e X.env (eval e X.env)) (TP X pins σ Q) X.xe s
def PW (X : Cx) (e : Expr) (t : TT) : Prop :=
  ∀ (whole : Sem Value) (pins : List (Addr × Obj)) (s : Shared) (σ : St) (H : Hp) (Q : Bool → Hp → Prop), Inv X pins σ H s → t σ H Q → wpAny (model X.prog X.w) X.A (isTrue e X.env whole) (TP X pins σ Q) X.xe s
theorem PW.pt {X : Cx} {e : Expr} {t : TT} (h : PW X e t) : PT X e t := h _
def PA (X : Cx) (es : List Expr) (t : TA) : Prop :=
  ∀ (pos : Pos) (pins : List (Addr × Obj)) (s : Shared) (σ : St) (H : Hp) (Q : List V → Hp → Prop), Inv X pins σ H s → t σ H Q → wpAny (model X.prog X.w) X.A (spliced (backTo pos (starEach es X.env))) (AP X pins σ Q) X.xe s
def PS (X : Cx) (st : Stmt) (t : TS) : Prop :=
  ∀ (pins : List (Addr × Obj)) (s : Shared) (σ : St) (H : Hp) (D : Ends), Inv X pins σ H s → t D σ H → wpAny (model X.prog X.w) X.A (exec st X.env) (SP X pins D) X.xe s
def PSs (X : Cx) (st : List Stmt) (t : TS) : Prop :=
  ∀ (pins : List (Addr × Obj)) (s : Shared) (σ : St) (H : Hp) (D : Ends), Inv X pins σ H s → t D σ H → wpAny (model X.prog X.w) X.A (execs st X.env) (SP X pins D) X.xe s
theorem thn {α : Type} {t : Sem α} {Q Q' : α → Shared → Prop} {M : Model} {A : Around} {E : Value → Shared → Prop} {s : Shared} (h : wpAny M A t Q E s) (hQ : ∀ a s, Q a s → Q' a s) : wpAny M A t Q' E s := wpAny_mono h hQ fun _ _ x => x
end L2
namespace L2
open PySem PySem.Spec PyProof.Rows
section
variable {X : Cx}
theorem bin {a b : Expr} {ta tb : TE} (ha : PE X a ta) (hb : PE X b tb) {pins : List (Addr × Obj)} {s : Shared} {σ : St} {H : Hp} {R : V → V → Hp → Prop} (I : Inv X pins σ H s) (h : ta σ H fun x H1 => tb σ H1 fun y H2 => R x y H2)
    {α : Type} {Q : α → Shared → Prop} {f : Value → Value → Sem α}
    (hf : ∀ v u s2 x y H2, Inv X pins σ H2 s2 → RelV x v → RelV y u → R x y H2 → wpAny (model X.prog X.w) X.A (f v u) Q X.xe s2) :
    wpAny (model X.prog X.w) X.A (eval a X.env) (fun v s₁ => wpAny (model X.prog X.w) X.A (eval b X.env) (fun u s₂ => wpAny (model X.prog X.w) X.A (f v u) Q X.xe s₂) X.xe s₁) X.xe s := by
  refine thn (ha pins s σ H _ I h) fun v s1 ⟨x, H1, I1, r1, q1⟩ => ?_
  refine thn (hb pins s1 σ H1 _ I1 q1) fun u s2 ⟨y, H2, I2, r2, q2⟩ => ?_
  exact hf v u s2 x y H2 I2 r1 r2 q2
def tVar (i : Nat) : TE := fun σ H Q => ∃ v, σ[i]? = some (some v) ∧ Q v H
def tC (v : V) : TE := fun _ H Q => Q v H
theorem pe_var {i : Nat} {x : Str} {pos : Pos} (hN : X.N[i]? = some x) (hv : Vis X.env.scope x) (hd : (x == ("__debug__" : Str)) = false := by decide) (hcd : (x == ("__classdict__" : Str)) = false := by decide) : PE X (.Name x pos) (tVar i) := by
  intro pins s σ H Q I h
  obtain ⟨v, e, h⟩ := h
  obtain ⟨m, hn, hl⟩ := I.loc
  obtain ⟨u, r, l⟩ := hl i x v hN e hv
  have fin : EP X pins σ Q u s := ⟨v, H, I, r, h⟩
  rcases l with ⟨hk, hm⟩ | ⟨hk, c, hc, hcell⟩
  · exact wpAny_Name (wpAny_loadName_local I.ok.kind hk hn hm fin) hd
  · rcases hk with hk | hk
    · exact wpAny_Name (wpAny_loadName_cell I.ok.kind hk hc hcell fin) hd
    · exact wpAny_Name (wpAny_loadName_free I.ok.kind hk hc hcell fin hcd) hd
theorem pe_int {i j pos} : PE X (.Constant (.int i) j pos) (tC (.int i)) := fun _ _ _ H _ I h => wpAny_Constant_int ⟨.int i, H, I.tok _, ⟨_, rfl⟩, h⟩
theorem pe_bl {b j pos} : PE X (.Constant (.bool b) j pos) (tC (.bl b)) := fun _ _ _ H _ I h => Constant_bool ⟨.bl b, H, I, rfl, h⟩
def Gl (X : Cx) (x : Str) : Prop := X.env.kindOf x = some .globalImplicit
theorem ld_glob {E : Value → Shared → Prop} {pins : List (Addr × Obj)} {s : Shared} {σ : St} {H : Hp} {x : Str} {u : Value} {pos : Pos} {Q : Value → Shared → Prop} (I : Inv X pins σ H s) (hg : Gl X x) (hm : X.mg x = some u) (h : Q u s)
    (hd : (x == ("__debug__" : Str)) = false := by decide) : wpAny (model X.prog X.w) X.A (eval (.Name x pos) X.env) Q E s :=
  Calls.Name_function_global I.ok.kind hg (Calls.loadGlobal_global (by rw [I.ok.glob]; exact I.mod.glob.keeps I.bk) hm h) hd
theorem ld_blt {E : Value → Shared → Prop} {pins : List (Addr × Obj)} {s : Shared} {σ : St} {H : Hp} {x : Str} {u : Value} {pos : Pos} {Q : Value → Shared → Prop} (I : Inv X pins σ H s) (hg : Gl X x) (hm : X.mg x = none) (hv : bootBuiltins x = some u) (h : Q u s)
    (hn : x ≠ "__name__" := by decide) (hd : (x == ("__debug__" : Str)) = false := by decide) : wpAny (model X.prog X.w) X.A (eval (.Name x pos) X.env) Q E s := by
  obtain ⟨mb, h1, h2⟩ := I.mod.blt
  exact Calls.Name_function_global I.ok.kind hg (Calls.loadGlobal_builtin (by rw [I.ok.glob]; exact I.mod.glob.keeps I.bk) hm (by rw [I.ok.blt]; exact h1.keeps I.bk) ((h2 x hn).trans hv) h) hd
theorem pe_glob {x : Str} {v : V} {u : Value} {pos : Pos} (hg : Gl X x) (hm : X.mg x = some u) (r : RelV v u) (hd : (x == ("__debug__" : Str)) = false := by decide) : PE X (.Name x pos) (tC v) :=
  fun _ _ _ H _ I h => ld_glob I hg hm ⟨v, H, I, r, h⟩ hd
variable {a b : Expr} {ta tb : TE} {pos : Pos}
variable {tA tB' : TT} {rest : List Expr}
def tAnd (t u : TT) : TT := fun σ H Q => t σ H fun c H1 => if c = true then u σ H1 Q else Q false H1
theorem pw_and1 (ha : PT X a tA) : PW X (.BoolOp .And [a] pos) tA := by
  intro wh pins s σ H Q I h
  refine isTrue_and (thn (ha pins s σ H Q I h) fun c s1 e => ?_)
  cases c with
  | true => exact isTrue_and_nil e
  | false => exact e
theorem pw_and (ha : PT X a tA) (hb : PW X (.BoolOp .And (b :: rest) pos) tB') : PW X (.BoolOp .And (a :: b :: rest) pos) (tAnd tA tB') := by
  intro wh pins s σ H Q I h
  refine isTrue_and (thn (ha pins s σ H _ I h) fun c s1 ⟨H1, I1, q1⟩ => ?_)
  cases c with
  | true => exact hb wh pins s1 σ H1 Q I1 q1
  | false => exact ⟨H1, I1, q1⟩
def tIf (t : TT) (ta tb : TE) : TE := fun σ H Q => t σ H fun c H1 => if c = true then ta σ H1 Q else tb σ H1 Q
theorem pe_ifExp {c : Expr} (hc : PT X c tA) (ha : PE X a ta) (hb : PE X b tb) : PE X (.IfExp c a b pos) (tIf tA ta tb) := by
  intro pins s σ H Q I h
  refine wpAny_IfExp (thn (hc pins s σ H _ I h) fun d s1 ⟨H1, I1, q1⟩ => ?_)
  cases d with
  | true => exact ha pins s1 σ H1 Q I1 q1
  | false => exact hb pins s1 σ H1 Q I1 q1
end
end L2
namespace L2
open PySem PySem.Spec PyProof.Rows
def SqL (K : PySem.W.Frag) (H : Hp) (a : Addr) (xs : List V) : Prop :=
  Rd H a (.lst xs) ∨
    ∃ (o : Obj) (its : Array Value) (n : Nat), K.lookup a = some o ∧ o.cls = .type "list" ∧ o.dict = none ∧ o.data = .seq its n ∧ its.size ≤ sizeLine ∧ Vals xs its.toList
def SqT (K : PySem.W.Frag) (H : Hp) (a : Addr) (xs : List V) : Prop :=
  Rd H a (.tup xs) ∨
    ∃ (o : Obj) (its : Array Value) (n : Nat), K.lookup a = some o ∧ o.cls = .type "tuple" ∧ o.data = .seq its n ∧ its.size ≤ sizeLine ∧ Vals xs its.toList
def absV : Value → Option V
  | .none => some .non
  | .bool b => some (.bl b)
  | .int i _ => some (.int i)
  | .str x _ => some (.str x)
  | .bytes b _ => some (.byt b)
  | .float b _ => some (.flt b)
  | .ref a => some (.ref a)
  | .type n => some (.ty n)
  | _ => none
theorem RelV.abs {x : V} {u : Value} (r : RelV x u) : absV u = some x := by
  cases x with
  | non => cases r; rfl
  | bl _ => cases r; rfl
  | int _ => obtain ⟨t, rfl⟩ := r; rfl
  | str _ => obtain ⟨t, rfl⟩ := r; rfl
  | byt _ => obtain ⟨t, rfl⟩ := r; rfl
  | flt _ => obtain ⟨t, rfl⟩ := r; rfl
  | ref _ => cases r; rfl
  | ty _ => cases r; rfl
theorem RelV.inj {x y : V} {u : Value} (r : RelV x u) (q : RelV y u) : x = y := Option.some.inj (r.abs.symm.trans q.abs)
theorem Vals.inj : ∀ {xs ys : List V} {us : List Value}, Vals xs us → Vals ys us → xs = ys
  | _, _, _, .nil, .nil => rfl
  | _, _, _, .cons r t, .cons r' t' => by rw [r.inj r', Vals.inj t t']
section
variable {X : Cx} {pins : List (Addr × Obj)} {σ : St} {H : Hp} {s : Shared} {a : Addr} {xs ys : List V}
theorem SqL.of {K : PySem.W.Frag} (h : H a = some (.lst xs)) : SqL K H a xs := .inl (.inl h)
theorem SqT.of {K : PySem.W.Frag} (h : H a = some (.tup xs)) : SqT K H a xs := .inl (.inl h)
theorem Inv.list (I : Inv X pins σ H s) (h : SqL X.K H a xs) : ∃ its : List Value, Vals xs its ∧ PlainL s.heap a its.toArray ∧ xs.length ≤ sizeLine := by
  rcases h with h | ⟨o, its, n, hk, hc, hd, hs, hz, r⟩
  · obtain ⟨z, its, n, r, e⟩ := h.ok I.hok
    exact ⟨its, r, ⟨_, n, e, rfl, rfl, rfl⟩, z⟩
  · refine ⟨its.toList, r, ⟨o, n, I.kIn a o hk, hc, hd, by simpa using hs⟩, ?_⟩
    have e := r.length
    simp only [Array.length_toList] at e
    omega
theorem Inv.tuple (I : Inv X pins σ H s) (h : SqT X.K H a xs) : ∃ its : List Value, Vals xs its ∧ IsTup s.heap a its.toArray ∧ xs.length ≤ sizeLine := by
  rcases h with h | ⟨o, its, n, hk, hc, hs, hz, r⟩
  · obtain ⟨z, its, r, p⟩ := h.ok I.hok
    exact ⟨its, r, p, z⟩
  · refine ⟨its.toList, r, ⟨o, I.kIn a o hk, hc, n, by simpa using hs⟩, ?_⟩
    have e := r.length
    simp only [Array.length_toList] at e
    omega
theorem Inv.list_inj (I : Inv X pins σ H s) (h : SqL X.K H a xs) (h' : SqL X.K H a ys) : xs = ys := by
  obtain ⟨its, r, ⟨o, n, e, _, _, d⟩, _⟩ := I.list h
  obtain ⟨its', r', ⟨o', n', e', _, _, d'⟩, _⟩ := I.list h'
  rw [e] at e'; cases e'
  rw [d] at d'
  injection d' with d1 _
  have : its = its' := by simpa using congrArg Array.toList d1
  subst this
  exact r.inj r'
theorem Inv.tuple_inj (I : Inv X pins σ H s) (h : SqT X.K H a xs) (h' : SqT X.K H a ys) : xs = ys := by
  obtain ⟨its, r, ⟨o, e, _, n, d⟩, _⟩ := I.tuple h
  obtain ⟨its', r', ⟨o', e', _, n', d'⟩, _⟩ := I.tuple h'
  rw [e] at e'; cases e'
  rw [d] at d'
  injection d' with d1 _
  have : its = its' := by simpa using congrArg Array.toList d1
  subst this
  exact r.inj r'
end
abbrev Cx.wish (X : Cx) (E : Value → Shared → Prop) : Cx := { X with xe := E }
abbrev Cx.nox (X : Cx) : Cx := X.wish fun _ _ => False
theorem Cx.Ok.wish {X : Cx} (ok : X.Ok) (E : Value → Shared → Prop) : (X.wish E).Ok :=
  ⟨ok.mod, ok.kind, ok.glob, ok.blt, ok.above, ok.inj, ok.has, ok.cab, ok.hd, ok.frames, ok.stk, ok.exf, ok.bs, ok.bsz, ok.noex, ok.exfs, ok.funs, ok.frf⟩
theorem Cx.Ok.unwish {X : Cx} {E : Value → Shared → Prop} (ok : (X.wish E).Ok) : X.Ok :=
  ⟨ok.mod, ok.kind, ok.glob, ok.blt, ok.above, ok.inj, ok.has, ok.cab, ok.hd, ok.frames, ok.stk, ok.exf, ok.bs, ok.bsz, ok.noex, ok.exfs, ok.funs, ok.frf⟩
section
variable {X : Cx} {pins : List (Addr × Obj)} {σ : St} {H : Hp} {s : Shared} {E : Value → Shared → Prop}
theorem Inv.wish (I : Inv X pins σ H s) (E : Value → Shared → Prop) : Inv (X.wish E) pins σ H s := ⟨I.ok.wish E, I.os, I.bare, I.base, I.loc, I.cell, I.free, I.freeC, I.pin, I.hok, I.len⟩
theorem Inv.unwish (I : Inv (X.wish E) pins σ H s) : Inv X pins σ H s := ⟨I.ok.unwish, I.os, I.bare, I.base, I.loc, I.cell, I.free, I.freeC, I.pin, I.hok, I.len⟩
theorem SP.unwish {D : Ends} {f : Flow} {s' : Shared} (h : SP (X.wish E) pins D f s') : SP X pins D f s' := by
  cases f with
  | next => obtain ⟨σ', H', I, q⟩ := h; exact ⟨σ', H', I.unwish, q⟩
  | brk => obtain ⟨σ', H', I, q⟩ := h; exact ⟨σ', H', I.unwish, q⟩
  | cont => obtain ⟨σ', H', I, q⟩ := h; exact ⟨σ', H', I.unwish, q⟩
  | ret u => obtain ⟨v, σ', H', I, r, q⟩ := h; exact ⟨v, σ', H', I.unwish, r, q⟩
theorem PE.nox {e : Expr} {t : TE} (h : PE X.nox e t) : PE X e t := fun pins s σ H Q I hw =>
  wpAny_mono (h pins s σ H Q (I.wish _) hw) (fun _ _ ⟨v, H', I', r, q⟩ => ⟨v, H', I'.unwish, r, q⟩) fun _ _ z => False.elim z
theorem PT.nox {e : Expr} {t : TT} (h : PT X.nox e t) : PT X e t := fun pins s σ H Q I hw =>
  wpAny_mono (h pins s σ H Q (I.wish _) hw) (fun _ _ ⟨H', I', q⟩ => ⟨H', I'.unwish, q⟩) fun _ _ z => False.elim z
theorem PSs.nox {st : List Stmt} {t : TS} (h : PSs X.nox st t) : PSs X st t := fun pins s σ H D I hw =>
  wpAny_mono (h pins s σ H D (I.wish _) hw) (fun _ _ q => q.unwish) fun _ _ z => False.elim z
end
section
variable {X : Cx} {st : Stmt} {rest : List Stmt} {t u : TS} {e : Expr} {te : TE} {pos : Pos}
def tNext : TS := fun D σ H => D.nx σ H
def tSeq (t u : TS) : TS := fun D σ H => t { D with nx := u D } σ H
theorem pss_nil : PSs X [] tNext := fun _ _ σ H _ I h => wpAny_execs_nil ⟨σ, H, I, h⟩
theorem pss_cons (h1 : PS X st t) (h2 : PSs X rest u) : PSs X (st :: rest) (tSeq t u) := by
  intro pins s σ H D I h
  refine wpAny_execs_cons (thn (h1 pins s σ H { D with nx := u D } I h) fun f s1 q => ?_)
  cases f with
  | next =>
    obtain ⟨σ', H', I', q⟩ := q
    exact h2 pins s1 σ' H' D I' q
  | ret v => exact q
  | brk => exact q
  | cont => exact q
theorem pss_one (h1 : PS X st t) : PSs X [st] t := by
  intro pins s σ H D I h
  refine wpAny_execs_cons (thn (h1 pins s σ H D I h) fun f s1 q => ?_)
  cases f with
  | next => exact wpAny_execs_nil q
  | ret v => exact q
  | brk => exact q
  | cont => exact q
theorem Inv.quiet {pins : List (Addr × Obj)} {σ : St} {H : Hp} {s : Shared} (I : Inv X pins σ H s) : interactive X.env = false := by simp [interactive, I.ok.kind]
def tDrop (te : TE) : TS := fun D σ H => te σ H fun _ H1 => D.nx σ H1
theorem ps_expr (he : PE X e te) (hs : swapsWith e none pos.line X.env = pure false := by rfl) : PS X (.Expr e pos) (tDrop te) := by
  intro pins s σ H D I h
  exact wpAny_Expr_any (thn (he pins s σ H _ I h) fun v s1 ⟨x, H1, I1, r1, q1⟩ => ⟨σ, H1, I1, q1⟩) I.quiet hs
def tRet (te : TE) : TS := fun D σ H => te σ H D.rt
theorem ps_ret (he : PE X e te) : PS X (.Return (some e) pos) (tRet te) := by
  intro pins s σ H D I h
  exact wpAny_Return_some (thn (he pins s σ H _ I h) fun v s1 ⟨x, H1, I1, r1, q1⟩ => ⟨x, σ, H1, I1, r1, q1⟩)
def tRetN : TS := fun D _ H => D.rt .non H
theorem ps_retN : PS X (.Return none pos) tRetN := fun _ _ σ H _ I h => wpAny_Return_none ⟨.non, σ, H, I, rfl, h⟩
def tIfS (c : TT) (t u : TS) : TS := fun D σ H => c σ H fun b H1 => if b = true then t D σ H1 else u D σ H1
theorem ps_if {c : Expr} {a b : List Stmt} {tc : TT} (hc : PT X c tc) (ha : PSs X a t) (hb : PSs X b u) : PS X (.If c a b pos) (tIfS tc t u) := by
  intro pins s σ H D I h
  refine wpAny_If (thn (hc pins s σ H _ I h) fun d s1 ⟨H1, I1, q1⟩ => ?_)
  cases d with
  | true => exact ha pins s1 σ H1 D I1 q1
  | false => exact hb pins s1 σ H1 D I1 q1
end
abbrev TG := V → St → Hp → (St → Hp → Prop) → Prop
abbrev TGs := List V → St → Hp → (St → Hp → Prop) → Prop
def PG (X : Cx) (target : Expr) (t : TG) : Prop :=
  ∀ (pins : List (Addr × Obj)) (s : Shared) (σ : St) (H : Hp) (v : V) (u : Value) (Q : St → Hp → Prop), Inv X pins σ H s → RelV v u → t v σ H Q →
    wpAny (model X.prog X.w) X.A (assign target X.env u) (fun _ s' => ∃ σ' H', Inv X pins σ' H' s' ∧ Q σ' H') X.xe s
def PGs (X : Cx) (ts : List Expr) (t : TGs) : Prop :=
  ∀ (pins : List (Addr × Obj)) (s : Shared) (σ : St) (H : Hp) (vs : List V) (us : List Value) (Q : St → Hp → Prop), Inv X pins σ H s → Vals vs us → t vs σ H Q →
    wpAny (model X.prog X.w) X.A (assignInOrder ((assignEach ts X.env).map (·.2)) us) (fun _ s' => ∃ σ' H', Inv X pins σ' H' s' ∧ Q σ' H') X.xe s
abbrev TSet := V → V → V → Hp → (Hp → Prop) → Prop
def PSet (X : Cx) (t : TSet) : Prop :=
  ∀ (pins : List (Addr × Obj)) (s : Shared) (σ : St) (H : Hp) (o i v : V) (ov iv u : Value) (Q : Hp → Prop), Inv X pins σ H s → RelV o ov → RelV i iv → RelV v u → t o i v H Q →
    wpAny (model X.prog X.w) X.A (setItem ov iv u) (fun _ s' => ∃ H', Inv X pins σ H' s' ∧ Q H') X.xe s
section
variable {X : Cx} {pos : Pos}
def gName (i : Nat) : TG := fun v σ H Q => Q (σ.set i (some v)) H
theorem pg_name {i : Nat} {x : Str} (hN : X.N.Nodup) (hi : X.N[i]? = some x) (hx : Loc X.env.scope x) (hf : X.fn x = true ∨ X.env.scope.names.lookup x = some .local := by first | exact .inl rfl | exact .inr rfl | assumption) : PG X (.Name x pos) (gName i) := by
  intro pins s σ H v u Q I r h
  exact wpAny_assign_Name (store_ok I hN hi hx r (fun s' I' => ⟨_, H, I', h⟩) hf)
def gNil : TGs := fun vs σ H Q => vs = [] ∧ Q σ H
def gCons (t : TG) (u : TGs) : TGs := fun vs σ H Q => ∃ v r, vs = v :: r ∧ t v σ H fun σ' H' => u r σ' H' Q
theorem pgs_nil : PGs X [] gNil := by
  intro pins s σ H vs us Q I r h
  obtain ⟨e, h⟩ := h
  subst e
  cases r
  exact assignInOrder_nil ⟨σ, H, I, h⟩
theorem pgs_cons {e : Expr} {es : List Expr} {t : TG} {u : TGs} (h1 : PG X e t) (h2 : PGs X es u)
    (hs : (assignEach (e :: es) X.env).map (·.2) = assign e X.env :: (assignEach es X.env).map (·.2) := by rfl) : PGs X (e :: es) (gCons t u) := by
  intro pins s σ H vs us Q I r h
  obtain ⟨v, vr, e1, h⟩ := h
  subst e1
  cases r with
  | cons r rr =>
    rw [hs]
    refine assignInOrder_cons (thn (h1 pins s σ H _ _ _ I r h) fun _ s1 ⟨σ1, H1, I1, q1⟩ => ?_)
    exact h2 pins s1 σ1 H1 _ _ Q I1 rr q1
def gTup (K : PySem.W.Frag) (n : Nat) (t : TGs) : TG := fun v σ H Q => ∃ a xs, v = .ref a ∧ SqT K H a xs ∧ xs.length = n ∧ t xs σ H Q
theorem pg_tup {es : List Expr} {k : Nat} {t : TGs} {n : Nat} (hc : X.calm = true) (h : PGs X es t)
    (hn : (assignEach es X.env).length = n := by rfl) (hst : (assignEach es X.env).findIdx? (·.1) = none := by rfl) : PG X (.Tuple es k pos) (gTup X.K n t) := by
  intro pins s σ H v u Q I r hw
  obtain ⟨a, xs, e1, hq, hl, hw⟩ := hw
  subst e1
  cases r
  obtain ⟨its, rv, ht, hz⟩ := I.tuple hq
  refine assign_Tuple_tuple (I.ok.hd hc) ht (by simp [hn, ← hl, rv.length]) hst fun h' hx => ?_
  have I1 : Inv X pins σ H { s with heap := h' } := I.kept (t' := s.toks) fun b o e => hx b o (Nat.ne_of_lt (Heap.lt_size e)) e
  exact h pins _ σ H xs _ Q I1 (by simpa using rv) hw
def gSub (to ti : TE) (t : TSet) : TG := fun v σ H Q => to σ H fun o H1 => ti σ H1 fun i H2 => t o i v H2 fun H3 => Q σ H3
theorem pg_sub {o i : Expr} {to ti : TE} {t : TSet} (ho : PE X o to) (hi : PE X i ti) (hs : PSet X t)
    (ha : ∀ v, assign (.Subscript o i pos) X.env v = (do
      let ov ← holding [v] (eval o X.env)
      let iv ← holding [v, ov] (eval i X.env)
      standAt pos
      holding [v, ov, iv] (setItem ov iv v)
      release [v, ov, iv] []) := by intro _; rfl) : PG X (.Subscript o i pos) (gSub to ti t) := by
  intro pins s σ H v u Q I r h
  rw [ha]
  refine wpAny_bind (wpAny_holding (thn (ho pins s σ H _ I h) fun ov s1 ⟨x, H1, I1, r1, q1⟩ => ?_))
  refine wpAny_bind (wpAny_holding (thn (hi pins s1 σ H1 _ I1 q1) fun iv s2 ⟨y, H2, I2, r2, q2⟩ => ?_))
  refine wpAny_bind (wpAny_standAt (wpAny_bind (wpAny_holding (thn (hs pins s2 σ H2 x y v ov iv u _ I2 r1 r2 r q2) fun _ s3 ⟨H3, I3, q3⟩ => ?_))))
  exact wpAny_release ⟨σ, H3, I3, q3⟩
def tAsg (te : TE) (g : TG) : TS := fun D σ H => te σ H fun x H1 => g x σ H1 D.nx
theorem ps_asg {tg e : Expr} {te : TE} {g : TG} (he : PE X e te) (hg : PG X tg g) (hs : swapsWithSole [tg] e pos.line X.env = pure false := by rfl) (hw : swappedStores [tg] e X.env = pure none := by rfl)
    (h1 : (assignEach [tg] X.env).map (·.2) = [assign tg X.env] := by rfl) : PS X (.Assign [tg] e pos) (tAsg te g) := by
  intro pins s σ H D I h
  refine wpAny_Assign_stores (thn (he pins s σ H _ I h) fun v s1 ⟨x, H1, I1, r1, q1⟩ => ?_) hs hw
  rw [h1]
  exact thn (hg pins s1 σ H1 x v _ I1 r1 q1) fun _ s2 q => q
theorem ps_set {i : Nat} {x : Str} {e : Expr} {te : TE} {pos' : Pos} (hN : X.N.Nodup) (hi : X.N[i]? = some x) (hx : Loc X.env.scope x) (he : PE X e te) (hs : swapsWith e (some (.Name x pos')) pos.line X.env = pure false := by rfl) (hf : X.fn x = true ∨ X.env.scope.names.lookup x = some .local := by first | exact .inl rfl | exact .inr rfl | assumption) :
    PS X (.Assign [.Name x pos'] e pos) (tAsg te (gName i)) := by
  intro pins s σ H D I h
  refine wpAny_Assign_Name (thn (he pins s σ H _ I h) fun v s1 ⟨y, H1, I1, r1, q1⟩ => ?_) hs
  exact store_ok I1 hN hi hx r1 (fun s2 I2 => ⟨_, H1, I2, q1⟩) hf
end
section
variable {X : Cx} {pos : Pos}
end
structure It where
  go : Nat → Hp → Prop
  yld : Nat → Hp → V → Hp → Prop
  stop : Nat → Hp → Prop
def FpOk (X : Cx) (pins : List (Addr × Obj)) (H : Hp) (b : Addr) : Prop :=
  H b = none ∧ b ≠ X.env.locals ∧ b ∉ X.fs ∧ (b ∈ X.ex ∨ X.s₀.heap.objs.size ≤ b) ∧ (∀ x c, X.env.cells.lookup x = some c → c ≠ b) ∧ ∀ p ∈ X.pn ++ pins, p.1 ≠ b
theorem Inv.fpOk {X : Cx} {pins : List (Addr × Obj)} {σ : St} {H H' : Hp} {s : Shared} {b : Addr} (I : Inv X pins σ H s) (hb : s.heap.objs.size ≤ b) (hn : H' b = none) : FpOk X pins H' b := by
  refine ⟨hn, Nat.ne_of_gt (Nat.lt_of_lt_of_le I.lt hb), I.nofs hb, .inr (Nat.le_trans I.sz hb), fun x c e z => ?_, fun p hp z => ?_⟩
  · obtain ⟨v, q⟩ := I.cell x c e
    exact absurd (Nat.lt_of_lt_of_le q.lt (by rw [z]; exact hb)) (Nat.lt_irrefl _)
  · exact absurd (Nat.lt_of_lt_of_le (Heap.lt_size (I.pin p hp).1) (by rw [z]; exact hb)) (Nat.lt_irrefl _)
structure Turn (P : Program) (w : World) (K : PySem.W.Frag) (tg : Expr) (J : It) (fp : List Addr) (it : Addr) (tn : Nat → Heap → Prop) : Prop where
  mem : it ∈ fp
  obj : ∀ i h, tn i h → ∀ b ∈ fp, ∃ o, h.get? b = some o ∧ ∀ v, o.data ≠ .cell v
  keep : ∀ i h h', tn i h → (∀ b ∈ fp, ∀ o, h.get? b = some o → h'.get? b = some o) → tn i h'
  item : ∀ (X : Cx), X.prog = P → X.w = w → X.K = K → X.calm = true → ∀ (i : Nat) (pins : List (Addr × Obj)) (s : Shared) (σ : St) (H : Hp) (E : Value → Shared → Prop), Inv X pins σ H s → (∀ b ∈ fp, FpOk X pins H b) → tn i s.heap → J.go i H →
    wpAny (model P w) X.A (pyNext (.ref it)) (fun r s1 => ∃ u, r = some u ∧
      wpAny (model P w) X.A (letOwnedTupleGo tg (.ref it) u) (fun _ s2 => ∃ x H', Inv X pins σ H' s2 ∧ RelV x u ∧ J.yld i H x H' ∧ tn (i + 1) s2.heap ∧ ∀ b ∈ fp, H' b = none) E s1) E s
  done : ∀ (X : Cx), X.prog = P → X.w = w → X.K = K → X.calm = true → ∀ (i : Nat) (pins : List (Addr × Obj)) (s : Shared) (σ : St) (H : Hp) (E : Value → Shared → Prop), Inv X pins σ H s → (∀ b ∈ fp, FpOk X pins H b) → tn i s.heap → J.stop i H →
    wpAny (model P w) X.A (pyNext (.ref it)) (fun r s1 => r = none ∧ Inv X pins σ H s1) E s
  self : ∀ (A : Around) (i : Nat) (s : Shared) (Q : Value → Shared → Prop) (E : Value → Shared → Prop), tn i s.heap → Q (.ref it) s → wpAny (model P w) A (pyIter (.ref it)) Q E s
abbrev TI := St → Hp → (It → Hp → Prop) → Prop
def PIE (X : Cx) (pins : List (Addr × Obj)) (σ : St) (tg : Expr) (R : It → Hp → Prop) (itv : Value) (s2 : Shared) : Prop :=
  ∃ (it : Addr) (fp : List Addr) (tn : Nat → Heap → Prop) (J : It) (H' : Hp), itv = .ref it ∧ Inv X pins σ H' s2 ∧ Turn X.prog X.w X.K tg J fp it tn ∧ tn 0 s2.heap ∧ (∀ b ∈ fp, FpOk X pins H' b) ∧ R J H'
def PI (X : Cx) (tg iter : Expr) (wi : TI) : Prop :=
  ∀ (pins : List (Addr × Obj)) (s : Shared) (σ : St) (H : Hp) (R : It → Hp → Prop), Inv X pins σ H s → wi σ H R →
    wpAny (model X.prog X.w) X.A (eval iter X.env) (fun v s1 => wpAny (model X.prog X.w) X.A (pyIter v) (PIE X pins σ tg R) X.xe s1) X.xe s
theorem go_of {M : Model} {A : Around} {E : Value → Shared → Prop} {s : Shared} {tg : Expr} {it : Addr} {u : Value} {o : Obj} {n : String} {vs : Array Value} {Q : Unit → Shared → Prop} (ho : s.heap.get? it = some o) (hc : o.cls = .type n) (hd : o.data = .fields vs)
    (hn : ["enumerate", "zip", "dict_itemiterator", "dict_reverseitemiterator", "odict_iterator", "itertools.zip_longest", "itertools.pairwise"].contains n = false) (hQ : Q () s) : wpAny M A (letOwnedTupleGo tg (.ref it) u) Q E s := by
  unfold letOwnedTupleGo
  cases tg <;> first
    | exact wpAny_pure hQ
    | (cases u <;> first
        | exact wpAny_pure hQ
        | (refine wpAny_bind (wpAny_load ho ?_)
           rw [hc, hd]
           show wpAny M A (if (["enumerate", "zip", "dict_itemiterator", "dict_reverseitemiterator", "odict_iterator", "itertools.zip_longest", "itertools.pairwise"].contains n && vs[0]? == some (rawInt _)) = true then _ else _) Q E s
           rw [if_neg (by intro h; rw [hn, Bool.false_and] at h; cases h)]
           exact wpAny_pure hQ))
def Itl (K : PySem.W.Frag) (a : Addr) : It :=
  ⟨fun i H => ∃ xs x, SqL K H a xs ∧ xs[i]? = some x, fun i H x H' => H' = H ∧ ∀ xs, SqL K H a xs → xs[i]? = some x, fun i H => ∃ xs, SqL K H a xs ∧ xs.length ≤ i⟩
def Itt (K : PySem.W.Frag) (a : Addr) : It :=
  ⟨fun i H => ∃ xs x, SqT K H a xs ∧ xs[i]? = some x, fun i H x H' => H' = H ∧ ∀ xs, SqT K H a xs → xs[i]? = some x, fun i H => ∃ xs, SqT K H a xs ∧ xs.length ≤ i⟩
def Itr (lo : Int) (n : Nat) : It := ⟨fun i _ => i < n, fun i H x H' => H' = H ∧ x = .int (lo + i), fun i _ => n ≤ i⟩
theorem turn_list {P : Program} {w : World} {K : PySem.W.Frag} {tg : Expr} (a it : Addr) : Turn P w K tg (Itl K a) [it] it (fun i h => h.IsListIter it a i) where
  mem := by simp
  obj := fun i h st b hb => by
    have e : b = it := by simpa using hb
    subst e
    obtain ⟨o, e, c, d⟩ := st
    exact ⟨o, e, fun v z => by rw [d] at z; cases z⟩
  keep := fun i h h' st k => st.at fun o e => k it (by simp) o e
  item := by
    intro X hP hw hK hc i pins s σ H E I hf st hg
    subst hP hw hK
    obtain ⟨xs, x, hq, hx⟩ := hg
    obtain ⟨its, rv, p, hz⟩ := I.list hq
    obtain ⟨u, hu, ru⟩ := rv.get hx
    obtain ⟨f0, f1, f2, f3, f4, f5⟩ := hf it (by simp)
    refine wpAny_pyNext_list_item st p.isList (x := u) (by simpa using hu) fun h' st' sb => ?_
    have I1 : Inv X pins σ H { s with heap := h' } := I.turned (t' := s.toks) (fun b o hb e => (sb.2 b hb).trans e) f0 f1 f3 f4 f5
    obtain ⟨o, e, c, d⟩ := id st'
    exact ⟨u, rfl, go_of (s := { s with heap := h' }) e c d (by decide) ⟨x, H, I1, ru, ⟨rfl, fun ys hy => by rw [I.list_inj hy hq]; exact hx⟩, st', fun b hb => (hf b hb).1⟩⟩
  done := by
    intro X hP hw hK hc i pins s σ H E I hf st hg
    subst hP hw hK
    obtain ⟨xs, hq, hx⟩ := hg
    obtain ⟨its, rv, p, hz⟩ := I.list hq
    obtain ⟨f0, f1, f2, f3, f4, f5⟩ := hf it (by simp)
    have hl := rv.length
    exact wpAny_pyNext_list_end (I.ok.hd hc) st p.isList (by simp; omega) fun h' eb => ⟨rfl, I.turned (t' := s.toks) (fun b o hb e => eb b o hb e) f0 f1 f3 f4 f5⟩
  self := fun _ _ _ _ _ st h => wpAny_pyIter_listiter st h
theorem turn_tuple {P : Program} {w : World} {K : PySem.W.Frag} {tg : Expr} (a it : Addr) : Turn P w K tg (Itt K a) [it] it (fun i h => h.IsTupleIter it a i) where
  mem := by simp
  obj := fun i h st b hb => by
    have e : b = it := by simpa using hb
    subst e
    obtain ⟨o, e, c, d⟩ := st
    exact ⟨o, e, fun v z => by rw [d] at z; cases z⟩
  keep := fun i h h' st k => st.at fun o e => k it (by simp) o e
  item := by
    intro X hP hw hK hc i pins s σ H E I hf st hg
    subst hP hw hK
    obtain ⟨xs, x, hq, hx⟩ := hg
    obtain ⟨its, rv, p, hz⟩ := I.tuple hq
    obtain ⟨u, hu, ru⟩ := rv.get hx
    obtain ⟨f0, f1, f2, f3, f4, f5⟩ := hf it (by simp)
    refine wpAny_pyNext_tuple_item st (show s.heap.IsTuple a its.toArray from p) (x := u) (by simpa using hu) fun h' st' sb => ?_
    have I1 : Inv X pins σ H { s with heap := h' } := I.turned (t' := s.toks) (fun b o hb e => (sb.2 b hb).trans e) f0 f1 f3 f4 f5
    obtain ⟨o, e, c, d⟩ := id st'
    exact ⟨u, rfl, go_of (s := { s with heap := h' }) e c d (by decide) ⟨x, H, I1, ru, ⟨rfl, fun ys hy => by rw [I.tuple_inj hy hq]; exact hx⟩, st', fun b hb => (hf b hb).1⟩⟩
  done := by
    intro X hP hw hK hc i pins s σ H E I hf st hg
    subst hP hw hK
    obtain ⟨xs, hq, hx⟩ := hg
    obtain ⟨its, rv, p, hz⟩ := I.tuple hq
    obtain ⟨f0, f1, f2, f3, f4, f5⟩ := hf it (by simp)
    have hl := rv.length
    exact wpAny_pyNext_tuple_end (I.ok.hd hc) st (show s.heap.IsTuple a its.toArray from p) (by simp; omega) fun h' eb => ⟨rfl, I.turned (t' := s.toks) (fun b o hb e => eb b o hb e) f0 f1 f3 f4 f5⟩
  self := fun _ _ _ _ _ st h => wpAny_pyIter_tupleiter st h
theorem turn_range {P : Program} {w : World} {K : PySem.W.Frag} {tg : Expr} (it : Addr) (lo : Int) (n : Nat) : Turn P w K tg (Itr lo n) [it] it (fun i h => IsRangeIter h it (lo + (i : Nat) * 1) ((n : Int) - (i : Nat)) 1) where
  mem := by simp
  obj := fun i h st b hb => by
    have e : b = it := by simpa using hb
    subst e
    exact ⟨_, st, fun v z => by
      have z' : Data.fields _ = Data.cell v := z
      cases z'⟩
  keep := fun i h h' st k => k it (by simp) _ st
  item := by
    intro X hP hw hK hc i pins s σ H E I hf st hg
    subst hP hw hK
    obtain ⟨f0, f1, f2, f3, f4, f5⟩ := hf it (by simp)
    have W := Walks.range (prog := X.prog) (w := X.w) (I.ok.hd hc) it lo 1 n
    refine W.item i s _ _ hg st fun v h' tk hv st' kk => ?_
    obtain ⟨t, rfl⟩ := hv
    have I1 : Inv X pins σ H { s with heap := h', toks := tk } := I.turned (fun b o hb e => kk b o (by simpa using hb) e) f0 f1 f3 f4 f5
    refine ⟨_, rfl, go_of (s := { s with heap := h', toks := tk }) (n := "range_iterator") st' rfl rfl (by decide) ⟨.int (lo + i), H, I1, ⟨t, ?_⟩, ⟨rfl, rfl⟩, st', fun b hb => (hf b hb).1⟩⟩
    rw [Int.mul_one]
  done := by
    intro X hP hw hK hc i pins s σ H E I hf st hg
    subst hP hw hK
    obtain ⟨f0, f1, f2, f3, f4, f5⟩ := hf it (by simp)
    exact wpAny_pyNext_range_end (I.ok.hd hc) st (by have : n ≤ i := hg; omega) fun h' eb => ⟨rfl, I.turned (t' := s.toks) (fun b o hb e => eb b o hb e) f0 f1 f3 f4 f5⟩
  self := fun _ _ _ _ _ st h => wpAny_pyIter_rangeiter st h
end L2
namespace L2
open PySem PySem.Spec PyProof.Rows
section
variable {X : Cx} {tg : Expr}
theorem range_it {pins : List (Addr × Obj)} {σ : St} {H : Hp} {s : Shared} {R : It → Hp → Prop} {E : Value → Shared → Prop} {lo hi : Int} {t u v : Tok} {tk : Nat} (I : Inv X pins σ H s) (h1 : -(2 ^ 62) ≤ lo) (h2 : lo < 2 ^ 62) (h3 : -(2 ^ 62) ≤ hi) (h4 : hi < 2 ^ 62)
    (q : R (Itr lo (hi - lo).toNat) H) : wpAny (model X.prog X.w) X.A (pyIter (.ref s.heap.objs.size)) (PIE X pins σ tg R) E { s with heap := s.heap.push { cls := .type "range", data := .fields #[.int lo t, .int hi u, .int 1 v] }, toks := tk } := by
  refine wpAny_pyIter_range (IsRange.new ..) (small_one h1 h2 h3 h4) ?_
  have I1 : Inv X pins σ H { s with heap := s.heap.push { cls := .type "range", data := .fields #[.int lo t, .int hi u, .int 1 v] }, toks := tk } := I.kept fun b o e => Heap.get?_push_of_some _ e
  refine ⟨(s.heap.push { cls := .type "range", data := .fields #[.int lo t, .int hi u, .int 1 v] }).objs.size, [(s.heap.push { cls := .type "range", data := .fields #[.int lo t, .int hi u, .int 1 v] }).objs.size], _, _, H, rfl,
    I1.kept (t' := tk) fun b o e => Heap.get?_push_of_some _ e, turn_range _ lo (hi - lo).toNat, ?_, fun b hb => ?_, q⟩
  · have e1 : lo + ((0 : Nat) : Int) * 1 = lo := by simp
    have e2 : (((hi - lo).toNat : Nat) : Int) - ((0 : Nat) : Int) = Builtin.Range.rangeSize lo hi 1 := by rw [rangeSize_one]; split <;> omega
    show IsRangeIter _ _ (lo + ((0 : Nat) : Int) * 1) ((((hi - lo).toNat : Nat) : Int) - ((0 : Nat) : Int)) 1
    rw [e1, e2]
    exact Heap.get?_push_size _ rfl
  · have e : b = (s.heap.push { cls := .type "range", data := .fields #[.int lo t, .int hi u, .int 1 v] }).objs.size := by simpa using hb
    subst e
    exact I1.fpOk (Nat.le_refl _) (I1.hok.fresh (Nat.le_refl _))
def iRng1 (ta : TA) : TI := fun σ H R => ta σ H fun vs H1 => ∃ j : Int, vs = [.int j] ∧ -(2 ^ 62) ≤ j ∧ j < 2 ^ 62 ∧ R (Itr 0 j.toNat) H1
theorem pi_range1 {a : Expr} {ta : TA} {p pos : Pos} (hg : Gl X "range") (hm : X.mg "range" = none) (ha : PA X [a] ta) (hs : starEach [a] X.env = [(false, eval a X.env)] := by rfl) : PI X tg (.Call (.Name "range" p) [a] [] pos) (iRng1 ta) := by
  intro pins s σ H R I h
  refine Call_ (ld_blt I hg hm boot_range (PyProof.Rows.callWith_type1 (thn (ha pos pins s σ H _ I h) fun us s1 ⟨vs, H1, I1, r1, q1⟩ => ?_) hs rfl))
  obtain ⟨j, e, q1, q2, q⟩ := q1
  subst e
  cases r1 with
  | cons r rr =>
    cases rr
    obtain ⟨t, rfl⟩ := r
    exact call_range_1 (range_it I1 (by omega) (by omega) q1 q2 (by simpa using q))
def tFor (wi : TI) (g : TG) (tb : TS) : TS := fun D σ H => wi σ H fun J H1 => ∃ W : Nat → Nat → St → Hp → Prop, (∃ m, W 0 m σ H1) ∧ ∀ i m σ H, W i m σ H →
  (J.stop i H ∧ D.nx σ H) ∨ (J.go i H ∧ ∃ N : St → Hp → Prop, (∀ σ' H', N σ' H' → ∃ m', m' < m ∧ W (i + 1) m' σ' H') ∧ ∀ x H', J.yld i H x H' → g x σ H' fun σ2 H2 => tb { D with nx := N, ct := N, bk := D.nx } σ2 H2)
def pinsAt (fp : List Addr) (h : Heap) : List (Addr × Obj) := fp.filterMap fun b => (h.get? b).map fun o => (b, o)
theorem mem_pinsAt {fp : List Addr} {h : Heap} {b : Addr} {o : Obj} (hb : b ∈ fp) (e : h.get? b = some o) : (b, o) ∈ pinsAt fp h := List.mem_filterMap.mpr ⟨b, hb, by rw [e]; rfl⟩
theorem of_pinsAt {fp : List Addr} {h : Heap} {p : Addr × Obj} (hp : p ∈ pinsAt fp h) : p.1 ∈ fp ∧ h.get? p.1 = some p.2 := by
  obtain ⟨b, hb, e⟩ := List.mem_filterMap.mp hp
  cases q : h.get? b with
  | none => rw [q] at e; cases e
  | some o =>
    rw [q] at e
    have e' : (b, o) = p := Option.some.inj e
    subst e'
    exact ⟨hb, q⟩
theorem Inv.pinned {pins : List (Addr × Obj)} {σ : St} {H : Hp} {s : Shared} {fp : List Addr} (I : Inv X pins σ H s) (hf : ∀ b ∈ fp, FpOk X pins H b) (ho : ∀ b ∈ fp, ∃ o, s.heap.get? b = some o ∧ ∀ v, o.data ≠ .cell v) : Inv X (pins ++ pinsAt fp s.heap) σ H s :=
  I.pins_of fun p hp => (List.mem_append.mp hp).elim (fun z => I.pin p (List.mem_append_right _ z)) fun z => by
    obtain ⟨hb, e⟩ := of_pinsAt z
    obtain ⟨f0, f1, f2, _⟩ := hf p.1 hb
    obtain ⟨o, e', d⟩ := ho p.1 hb
    rw [e] at e'; cases e'
    exact ⟨e, f0, f1, f2, d⟩
theorem Inv.unpinned {pins pl : List (Addr × Obj)} {σ : St} {H : Hp} {s : Shared} (I : Inv X (pins ++ pl) σ H s) : Inv X pins σ H s := I.pins_of fun p hp => I.pin p (List.mem_append_right _ (List.mem_append_left _ hp))
theorem ps_for {iter : Expr} {body : List Stmt} {wi : TI} {g : TG} {tb : TS} {pos : Pos} (hp : PassesOwn (model X.prog X.w) X.A X.env X.xe) (hc : X.calm = true) (hi : PI X tg iter wi) (hg : PG X tg g) (hb : PSs X body tb)
    (hs : ∀ x, foldedSetIterable iter X.env x = pure x := by intro _; rfl) : PS X (.For tg iter body [] pos) (tFor wi g tb) := by
  intro pins s σ H D I h
  refine wpAny_For (thn (hi pins s σ H _ I h) fun v s1 h1 => thn h1 fun itv s2 h2 => ?_) hs
  obtain ⟨it, fp, tn, J, H2, e, I2, T, st2, f2, W, ⟨m0, w0⟩, turn⟩ := h2
  subst e
  -- what stays true of the iterator's objects through the loop
  have stat : ∀ {H' : Hp}, (∀ b ∈ fp, H' b = none) → ∀ b ∈ fp, FpOk X pins H' b := fun hn b hb => ⟨hn b hb, (f2 b hb).2⟩
  refine codeAny_forLoop_any (fun n s' => ∃ i σ' H', Inv X pins σ' H' s' ∧ tn i s'.heap ∧ (∀ b ∈ fp, H' b = none) ∧ W i n σ' H') ?_ m0 ⟨0, σ, H2, I2, st2, fun b hb => (f2 b hb).1, w0⟩
  rintro n s3 ⟨i, σ3, H3, I3, st3, fr3, w3⟩
  rcases turn i n σ3 H3 w3 with ⟨stop, qn⟩ | ⟨go, N, hN, step⟩
  · refine wpAny_passesOwn hp (thn (T.done X rfl rfl rfl hc i pins s3 σ3 H3 X.xe I3 (stat fr3) st3 stop) fun r s4 ⟨hr, I4⟩ => ?_)
    subst hr
    exact wpAny_execs_nil ⟨σ3, H3, I4, qn⟩
  · refine wpAny_passesOwn hp (thn (T.item X rfl rfl rfl hc i pins s3 σ3 H3 X.xe I3 (stat fr3) st3 go) fun r s4 ⟨u, hr, h4⟩ => ?_)
    subst hr
    refine wpAny_passesOwn hp (thn h4 fun _ s5 ⟨x, H5, I5, r5, y5, st5, fr5⟩ => ?_)
    have I5' := I5.pinned (stat fr5) (T.obj _ _ st5)
    refine wpAny_passesOwn hp (thn (hg _ s5 σ3 H5 x u _ I5' r5 (step x H5 y5)) fun _ s6 ⟨σ6, H6, I6, q6⟩ => ?_)
    refine wpAny_passesOwn hp (thn (hb _ s6 σ6 H6 _ I6 q6) fun f s7 q7 => ?_)
    have again : ∀ {σ7 : St} {H7 : Hp}, Inv X (pins ++ pinsAt fp s5.heap) σ7 H7 s7 → N σ7 H7 → ∃ m, m < n ∧ ∃ i σ' H', Inv X pins σ' H' s7 ∧ tn i s7.heap ∧ (∀ b ∈ fp, H' b = none) ∧ W i m σ' H' := fun {σ7 H7} I7 n7 => by
      obtain ⟨m', hm, w7⟩ := hN σ7 H7 n7
      refine ⟨m', hm, i + 1, σ7, H7, I7.unpinned, T.keep _ _ _ st5 fun b hb o e => (I7.pin (b, o) (List.mem_append_right _ (List.mem_append_right _ (mem_pinsAt hb e)))).1, fun b hb => ?_, w7⟩
      obtain ⟨o, e, d⟩ := T.obj _ _ st5 b hb
      exact (I7.pin (b, o) (List.mem_append_right _ (List.mem_append_right _ (mem_pinsAt hb e)))).2.1
    cases f with
    | next => obtain ⟨σ7, H7, I7, n7⟩ := q7; exact again I7 n7
    | cont => obtain ⟨σ7, H7, I7, n7⟩ := q7; exact again I7 n7
    | brk => obtain ⟨σ7, H7, I7, q7⟩ := q7; exact ⟨σ7, H7, I7.unpinned, q7⟩
    | ret v => obtain ⟨x7, σ7, H7, I7, r7, q7⟩ := q7; exact ⟨x7, σ7, H7, I7.unpinned, r7, q7⟩
end
end L2
namespace L2
open PySem PySem.Spec PyProof.Rows
abbrev R2 := V → V → Hp → VK → Prop
def OpR (X : Cx) (f : Value → Value → Sem Value) (r : R2) : Prop :=
  ∀ (pins : List (Addr × Obj)) (s : Shared) (σ : St) (H : Hp) (x y : V) (v u : Value) (Q : VK), Inv X pins σ H s → RelV x v → RelV y u → r x y H Q →
    wpAny (model X.prog X.w) X.A (f v u) (EP X pins σ Q) X.xe s
def CallR (X : Cx) (f : Value) (r : List V → Hp → VK → Prop) : Prop :=
  ∀ (pins : List (Addr × Obj)) (s : Shared) (σ : St) (H : Hp) (xs : List V) (us : List Value) (Q : VK), Inv X pins σ H s → Vals xs us → r xs H Q →
    wpAny (model X.prog X.w) X.A (call f us) (EP X pins σ Q) X.xe s
def TruR (X : Cx) (r : V → Hp → (Bool → Hp → Prop) → Prop) : Prop :=
  ∀ (pins : List (Addr × Obj)) (s : Shared) (σ : St) (H : Hp) (x : V) (v : Value) (Q : Bool → Hp → Prop), Inv X pins σ H s → RelV x v → r x H Q →
    wpAny (model X.prog X.w) X.A (truthy v) (TP X pins σ Q) X.xe s
def tOp (r : R2) (ta tb : TE) : TE := fun σ H Q => ta σ H fun x H1 => tb σ H1 fun y H2 => r x y H2 Q
def rI (C : Int → Int → Prop) (g : Int → Int → V) : R2 := fun x y H Q => ∃ i j, x = .int i ∧ y = .int j ∧ C i j ∧ Q (g i j) H
def rI0 (g : Int → Int → V) : R2 := fun x y H Q => ∃ i j, x = .int i ∧ y = .int j ∧ Q (g i j) H
section
variable {X : Cx} {a b c : Expr} {ta tb tc : TE} {pos : Pos}
theorem binT (ha : PE X a ta) (hb : PE X b tb) {pins : List (Addr × Obj)} {s : Shared} {σ : St} {H : Hp} {R : V → V → Hp → Prop} (I : Inv X pins σ H s)
    (h : ta σ H fun x H1 => tb σ H1 fun y H2 => R x y H2) {Q : Value → Shared → Prop} {f : Value → Value → Sem Value}
    (hf : ∀ v u s2 x y H2, Inv X pins σ H2 s2 → RelV x v → RelV y u → R x y H2 → wpAny (model X.prog X.w) X.A (f v u) Q X.xe s2) :
    wpAny (model X.prog X.w) X.A (eval a X.env) (fun v s₁ => wpAny (model X.prog X.w) X.A (eval b X.env) (fun u s₂ => wpAny (model X.prog X.w) X.A (f v u) Q X.xe s₂) X.xe s₁) X.xe s := by
  refine thn (ha pins s σ H _ I h) fun v s1 ⟨x, H1, I1, r1, q1⟩ => ?_
  refine thn (hb pins s1 σ H1 _ I1 q1) fun u s2 ⟨y, H2, I2, r2, q2⟩ => ?_
  exact hf v u s2 x y H2 I2 r1 r2 q2
theorem pe_op {op : Operator} {r : R2} (ho : OpR X (binaryOp op) r) (ha : PE X a ta) (hb : PE X b tb) : PE X (.BinOp a op b pos) (tOp r ta tb) := by
  intro pins s σ H Q I h
  exact wpAny_BinOp (binT ha hb I h fun v u s2 x y H2 I2 rx ry q => ho pins s2 σ H2 x y v u Q I2 rx ry q)
theorem opI {f : Value → Value → Sem Value} {C : Int → Int → Prop} {g : Int → Int → Int}
    (rule : ∀ (i j : Int) (t u : Tok) (s : Shared) (Q : Value → Shared → Prop) (E : Value → Shared → Prop), C i j → Q (.int (g i j) s.toks) { s with toks := s.toks + 1 } → wpAny (model X.prog X.w) X.A (f (.int i t) (.int j u)) Q E s) :
    OpR X f (rI C fun i j => .int (g i j)) := by
  intro pins s σ H x y v u Q I rx ry h
  obtain ⟨i, j, rfl, rfl, hc, q⟩ := h
  obtain ⟨t, rfl⟩ := rx
  obtain ⟨t', rfl⟩ := ry
  exact rule i j t t' s _ _ hc ⟨.int (g i j), H, I.tok _, ⟨_, rfl⟩, q⟩
theorem opI0 {f : Value → Value → Sem Value} {g : Int → Int → Int}
    (rule : ∀ (i j : Int) (t u : Tok) (s : Shared) (Q : Value → Shared → Prop) (E : Value → Shared → Prop), Q (.int (g i j) s.toks) { s with toks := s.toks + 1 } → wpAny (model X.prog X.w) X.A (f (.int i t) (.int j u)) Q E s) :
    OpR X f (rI0 fun i j => .int (g i j)) := by
  intro pins s σ H x y v u Q I rx ry h
  obtain ⟨i, j, rfl, rfl, q⟩ := h
  obtain ⟨t, rfl⟩ := rx
  obtain ⟨t', rfl⟩ := ry
  exact rule i j t t' s _ _ ⟨.int (g i j), H, I.tok _, ⟨_, rfl⟩, q⟩
theorem opB0 {f : Value → Value → Sem Value} {g : Int → Int → Bool}
    (rule : ∀ (i j : Int) (t u : Tok) (s : Shared) (Q : Value → Shared → Prop) (E : Value → Shared → Prop), Q (.bool (g i j)) s → wpAny (model X.prog X.w) X.A (f (.int i t) (.int j u)) Q E s) :
    OpR X f (rI0 fun i j => .bl (g i j)) := by
  intro pins s σ H x y v u Q I rx ry h
  obtain ⟨i, j, rfl, rfl, q⟩ := h
  obtain ⟨t, rfl⟩ := rx
  obtain ⟨t', rfl⟩ := ry
  exact rule i j t t' s _ _ ⟨.bl (g i j), H, I, rfl, q⟩
def CDiv (i j : Int) : Prop := 0 < j ∧ j < 1073741824
def CDivN (i j : Int) : Prop := j ≠ 0 ∧ j.natAbs < 1073741824
def CPow (i j : Int) : Prop := 0 ≤ j ∧ j ≤ 1000000 ∧ i.natAbs < 2 ^ 64
def CMul (i j : Int) : Prop := (-(2 ^ 64) < i ∧ i < 2 ^ 64) ∨ (-(2 ^ 64) < j ∧ j < 2 ^ 64)
theorem CMul.ok {i j : Int} (h : CMul i j) : IntMulOk i j := by
  rcases h with ⟨h1, h2⟩ | ⟨h1, h2⟩
  · exact .of_left (intBits_le_64 h1 h2)
  · exact .of_right (intBits_le_64 h1 h2)
theorem op_add : OpR X (binaryOp .Add) (rI0 fun i j => .int (i + j)) := opI0 fun _ _ _ _ _ _ _ q => add_int q
theorem op_sub : OpR X (binaryOp .Sub) (rI0 fun i j => .int (i - j)) := opI0 fun _ _ _ _ _ _ _ q => sub_int q
theorem op_mul : OpR X (binaryOp .Mult) (rI CMul fun i j => .int (i * j)) := opI fun _ _ _ _ _ _ _ hc q => mul_int q hc.ok
theorem op_fdiv : OpR X (binaryOp .FloorDiv) (rI CDiv fun i j => .int (i / j)) := opI fun i j _ _ _ _ _ hc q => by
  have h1 : (0 : Int) < j := hc.1
  have h2 : j < 1073741824 := hc.2
  exact floordiv_int (by omega) (by rw [Int.fdiv_eq_ediv_of_nonneg i (by omega)]; exact q) (.inl (PyProof.noPylong_small (by omega)))
theorem op_fdivN : OpR X (binaryOp .FloorDiv) (rI CDivN fun i j => .int (i.fdiv j)) := opI fun _ _ _ _ _ _ _ hc q => floordiv_int hc.1 q (.inl (PyProof.noPylong_small hc.2))
theorem op_mod : OpR X (binaryOp .Mod) (rI (fun _ j => 0 < j) fun i j => .int (i % j)) := opI fun i j _ _ _ _ _ hc q => by
  have h1 : (0 : Int) < j := hc
  exact mod_int' (by omega) (by rw [Int.fmod_eq_emod_of_nonneg i (by omega)]; exact q)
theorem op_modN : OpR X (binaryOp .Mod) (rI (fun _ j => j ≠ 0) fun i j => .int (i.fmod j)) := opI fun _ _ _ _ _ _ _ hc q => mod_int' hc q
theorem op_pow : OpR X (binaryOp .Pow) (rI CPow fun i j => .int (i ^ j.toNat)) := opI fun _ _ _ _ _ _ _ hc q => pow_int_small hc.1 hc.2.1 hc.2.2 q
end
def scal : V → V → Bool
  | .non, .non => true | .non, .int _ => true | .int _, .non => true | .non, .bl _ => true | .bl _, .non => true | .non, .str _ => true | .str _, .non => true
  | .int _, .int _ => true | .bl _, .bl _ => true | .str _, .str _ => true | .byt _, .byt _ => true
  | .int _, .str _ => true | .str _, .int _ => true | .bl _, .str _ => true | .str _, .bl _ => true
  | _, _ => false
def rEq : R2 := fun x y H Q => scal x y = true ∧ Q (.bl (decide (x = y))) H
def rNe : R2 := fun x y H Q => scal x y = true ∧ Q (.bl (!decide (x = y))) H
theorem dec_int {i j : Int} : decide (V.int i = V.int j) = (i == j) := by
  rw [Bool.eq_iff_iff]
  simp
theorem dec_bl {i j : Bool} : decide (V.bl i = V.bl j) = (i == j) := by
  rw [Bool.eq_iff_iff]
  simp
theorem dec_str {i j : Str} : decide (V.str i = V.str j) = (i == j) := by
  rw [Bool.eq_iff_iff]
  simp
theorem dec_byt {i j : Array UInt8} : decide (V.byt i = V.byt j) = (i.toList == j.toList) := by
  rw [Bool.eq_iff_iff]
  cases i
  cases j
  simp
section
variable {X : Cx} {a b c : Expr} {ta tb tc : TE} {pos : Pos}
theorem fin_bl {pins : List (Addr × Obj)} {σ : St} {H : Hp} {s : Shared} {Q : VK} {k k' : Bool} (I : Inv X pins σ H s) (q : Q (.bl k) H) (e : k = k') : EP X pins σ Q (.bool k') s := by
  subst e
  exact ⟨.bl k, H, I, rfl, q⟩
theorem op_eq : OpR X (compareOp .Eq) rEq := by
  intro pins s σ H x y v u Q I rx ry h
  obtain ⟨hs, q⟩ := h
  cases x with
  | non =>
    cases rx
    cases y with
    | non => cases ry; exact PySem.EqNone.eq_none_none (fin_bl I q (by simp))
    | bl j => cases ry; exact PySem.EqNone.eq_none_bool (fin_bl I q (by simp))
    | int j => obtain ⟨t', rfl⟩ := ry; exact PySem.EqNone.eq_none_int (fin_bl I q (by simp))
    | str j => obtain ⟨t', rfl⟩ := ry; exact PySem.EqNone.eq_none_str (fin_bl I q (by simp))
    | _ => exact absurd (show false = true from hs) Bool.false_ne_true
  | bl i =>
    cases rx
    cases y with
    | non => cases ry; exact PySem.EqNone.eq_bool_none (fin_bl I q (by simp))
    | bl j => cases ry; exact eq_bool (fin_bl I q dec_bl)
    | str j => obtain ⟨t', rfl⟩ := ry; exact PySem.EqMixed.eq_bool_str (fin_bl I q (by simp))
    | _ => exact absurd (show false = true from hs) Bool.false_ne_true
  | int i =>
    obtain ⟨t, rfl⟩ := rx
    cases y with
    | non => cases ry; exact PySem.EqNone.eq_int_none (fin_bl I q (by simp))
    | int j => obtain ⟨t', rfl⟩ := ry; exact eq_int (fin_bl I q dec_int)
    | str j => obtain ⟨t', rfl⟩ := ry; exact PySem.EqMixed.eq_int_str (fin_bl I q (by simp))
    | _ => exact absurd (show false = true from hs) Bool.false_ne_true
  | str i =>
    obtain ⟨t, rfl⟩ := rx
    cases y with
    | non => cases ry; exact PySem.EqNone.eq_str_none (fin_bl I q (by simp))
    | bl j => cases ry; exact PySem.EqMixed.eq_str_bool (fin_bl I q (by simp))
    | int j => obtain ⟨t', rfl⟩ := ry; exact PySem.EqMixed.eq_str_int (fin_bl I q (by simp))
    | str j => obtain ⟨t', rfl⟩ := ry; exact eq_str (fin_bl I q dec_str)
    | _ => exact absurd (show false = true from hs) Bool.false_ne_true
  | byt i =>
    obtain ⟨t, rfl⟩ := rx
    cases y with
    | byt j => obtain ⟨t', rfl⟩ := ry; exact PySem.W.eq_bytes (fin_bl I q dec_byt)
    | _ => exact absurd (show false = true from hs) Bool.false_ne_true
  | _ => cases y <;> exact absurd (show false = true from hs) Bool.false_ne_true
theorem op_ne : OpR X (compareOp .NotEq) rNe := by
  intro pins s σ H x y v u Q I rx ry h
  obtain ⟨hs, q⟩ := h
  cases x with
  | non =>
    cases rx
    cases y with
    | non => cases ry; exact PySem.EqNone.ne_none_none (fin_bl I q (by simp))
    | bl j => cases ry; exact PySem.EqNone.ne_none_bool (fin_bl I q (by simp))
    | int j => obtain ⟨t', rfl⟩ := ry; exact PySem.EqNone.ne_none_int (fin_bl I q (by simp))
    | str j => obtain ⟨t', rfl⟩ := ry; exact PySem.EqNone.ne_none_str (fin_bl I q (by simp))
    | _ => exact absurd (show false = true from hs) Bool.false_ne_true
  | bl i =>
    cases rx
    cases y with
    | non => cases ry; exact PySem.EqNone.ne_bool_none (fin_bl I q (by simp))
    | bl j => cases ry; exact ne_bool (fin_bl I q (congrArg not dec_bl))
    | str j => obtain ⟨t', rfl⟩ := ry; exact PySem.EqMixed.ne_bool_str (fin_bl I q (by simp))
    | _ => exact absurd (show false = true from hs) Bool.false_ne_true
  | int i =>
    obtain ⟨t, rfl⟩ := rx
    cases y with
    | non => cases ry; exact PySem.EqNone.ne_int_none (fin_bl I q (by simp))
    | int j => obtain ⟨t', rfl⟩ := ry; exact ne_int (fin_bl I q (congrArg not dec_int))
    | str j => obtain ⟨t', rfl⟩ := ry; exact PySem.EqMixed.ne_int_str (fin_bl I q (by simp))
    | _ => exact absurd (show false = true from hs) Bool.false_ne_true
  | str i =>
    obtain ⟨t, rfl⟩ := rx
    cases y with
    | non => cases ry; exact PySem.EqNone.ne_str_none (fin_bl I q (by simp))
    | bl j => cases ry; exact PySem.EqMixed.ne_str_bool (fin_bl I q (by simp))
    | int j => obtain ⟨t', rfl⟩ := ry; exact PySem.EqMixed.ne_str_int (fin_bl I q (by simp))
    | str j => obtain ⟨t', rfl⟩ := ry; exact ne_str (fin_bl I q (congrArg not dec_str))
    | _ => exact absurd (show false = true from hs) Bool.false_ne_true
  | byt i =>
    obtain ⟨t, rfl⟩ := rx
    cases y with
    | byt j => obtain ⟨t', rfl⟩ := ry; exact PySem.W.ne_bytes (fin_bl I q (congrArg not dec_byt))
    | _ => exact absurd (show false = true from hs) Bool.false_ne_true
  | _ => cases y <;> exact absurd (show false = true from hs) Bool.false_ne_true
theorem op_lt : OpR X (compareOp .Lt) (rI0 fun i j => .bl (decide (i < j))) := opB0 fun _ _ _ _ _ _ _ q => lt_int q
theorem op_le : OpR X (compareOp .LtE) (rI0 fun i j => .bl (decide (i ≤ j))) := opB0 fun _ _ _ _ _ _ _ q => le_int q
theorem op_gt : OpR X (compareOp .Gt) (rI0 fun i j => .bl (decide (j < i))) := opB0 fun _ _ _ _ _ _ _ q => gt_int q
theorem op_in_str : OpR X (compareOp .In) (fun x y H Q => ∃ i j, x = .str i ∧ y = .str j ∧ Q (.bl (!(Builtin.Str.occurrences j i 0 j.length 1).isEmpty)) H) := by
  intro pins s σ H x y v u Q I rx ry h
  obtain ⟨i, j, rfl, rfl, q⟩ := h
  obtain ⟨t, rfl⟩ := rx
  obtain ⟨t', rfl⟩ := ry
  exact in_str (fin_bl I q rfl)
theorem OpR.or {f : Value → Value → Sem Value} {r r' : R2} (h : OpR X f r) (h' : OpR X f r') : OpR X f (fun x y H Q => r x y H Q ∨ r' x y H Q) := by
  intro pins s σ H x y v u Q I rx ry q
  rcases q with q | q
  · exact h pins s σ H x y v u Q I rx ry q
  · exact h' pins s σ H x y v u Q I rx ry q
theorem nomark (b : Expr) {op : CmpOp} (h : op ≠ .In := by decide) (h2 : op ≠ .NotIn := by decide) : behindInMarks op b = false := by
  have e1 : (op == CmpOp.In) = false := by cases op <;> first | rfl | exact absurd rfl h
  have e2 : (op == CmpOp.NotIn) = false := by cases op <;> first | rfl | exact absurd rfl h2
  cases b <;> simp [behindInMarks, e1, e2]
theorem pe_cmpR {op : CmpOp} {r : R2} (ho : OpR X (compareOp op) r) (ha : PE X a ta) (hb : PE X b tb) (hm : behindInMarks op b = false) : PE X (.Compare a [op] [b] pos) (tOp r ta tb) := by
  intro pins s σ H Q I h
  exact wpAny_Compare1 (binT ha hb I h fun v u s2 x y H2 I2 rx ry q => ho pins s2 σ H2 x y v u Q I2 rx ry q) hm
def tTest (t : TE) : TT := fun σ H Q => t σ H fun x H' => ∃ k, x = .bl k ∧ Q k H'
theorem pt_cmpR {op : CmpOp} {r : R2} (ho : OpR X (compareOp op) r) (ha : PE X a ta) (hb : PE X b tb) (hm : behindInMarks op b = false) : PT X (.Compare a [op] [b] pos) (tTest (tOp r ta tb)) := by
  intro pins s σ H Q I h
  refine wpAny_isTrue_Compare1 (thn (ha pins s σ H _ I h) fun v s1 ⟨x, H1, I1, r1, q1⟩ => thn (hb pins s1 σ H1 _ I1 q1) fun u s2 ⟨y, H2, I2, r2, q2⟩ =>
    thn (ho pins s2 σ H2 x y v u _ I2 r1 r2 q2) fun c s3 ⟨z, H3, I3, r3, k, e, q3⟩ => ?_) hm
  subst e
  cases r3
  exact wpAny_truthy_bool ⟨H3, I3, q3⟩
def tChain (r r' : R2) (ta tb tc : TE) : TE := fun σ H Q => ta σ H fun x H1 => tb σ H1 fun y H2 => r x y H2 fun z H3 => ∃ k, z = .bl k ∧
  (if k = true then tc σ H3 fun w' H4 => r' y w' H4 Q else Q (.bl false) H3)
theorem pt_chain {op op' : CmpOp} {r r' : R2} (ho : OpR X (compareOp op) r) (ho' : OpR X (compareOp op') r') (ha : PE X a ta) (hb : PE X b tb) (hc : PE X c tc)
    (hm : lastMarks [op, op'] [b, c] = false := by with_unfolding_all rfl) : PT X (.Compare a [op, op'] [b, c] pos) (tTest (tChain r r' ta tb tc)) := by
  intro pins s σ H Q I h
  refine isTrue_chain (thn (ha pins s σ H _ I h) fun v s1 ⟨x, H1, I1, r1, q1⟩ => test_link (thn (hb pins s1 σ H1 _ I1 q1) fun u s2 ⟨y, H2, I2, r2, q2⟩ =>
    thn (ho pins s2 σ H2 x y v u _ I2 r1 r2 q2) fun d s3 ⟨z, H3, I3, r3, k, e, q3⟩ => ?_)) hm
  subst e
  cases r3
  refine wpAny_truthy_bool ?_
  cases k with
  | false =>
    obtain ⟨k', e', q'⟩ := q3
    cases e'
    exact ite_ff ⟨H3, I3, q'⟩
  | true =>
    refine ite_tt (test_last (thn (hc pins s3 σ H3 _ I3 q3) fun w' s4 ⟨z', H4, I4, r4, q4⟩ => thn (ho' pins s4 σ H4 y z' u w' _ I4 r2 r4 q4) fun d' s5 ⟨z2, H5, I5, r5, k2, e2, q5⟩ => ?_))
    subst e2
    cases r5
    exact wpAny_truthy_bool ⟨H5, I5, q5⟩
def TruV (K : PySem.W.Frag) (x : V) (H : Hp) (k : Bool) : Prop :=
  match x with
  | .non => k = false
  | .bl b => k = b
  | .int i => k = (i != 0)
  | .str y => y.length ≤ sizeLine ∧ k = ((y.length : Int) != 0)
  | .byt y => y.size ≤ sizeLine ∧ k = ((y.size : Int) != 0)
  | .ref p => (∃ xs, SqL K H p xs ∧ k = !xs.isEmpty) ∨ (∃ xs, SqT K H p xs ∧ k = !xs.isEmpty) ∨ ∃ kvs, H p = some (.dK kvs) ∧ k = !kvs.isEmpty
  | _ => False
theorem isEmpty_kv {κ : Type} {kvs : List (κ × V)} {vs : List (κ × Value)} (r : KV kvs vs) : (!vs.isEmpty) = !kvs.isEmpty := by
  cases r <;> rfl
theorem isEmpty_of {xs : List V} {its : List Value} (r : Vals xs its) : (!its.toArray.isEmpty) = !xs.isEmpty := by
  cases r <;> simp
theorem line63 : (sizeLine : Nat) < 2 ^ 63 := by rw [sizeLine_eq]; decide
theorem tru_ok : TruR X (fun x H Q => ∃ k, TruV X.K x H k ∧ Q k H) := by
  intro pins s σ H x v Q I rx h
  obtain ⟨k, e, q⟩ := h
  have hl := line63
  have hs : sizeLine = 16777216 := sizeLine_eq
  cases x with
  | non =>
    cases rx
    have e' : k = false := e
    subst e'
    exact truthy_none ⟨H, I, q⟩
  | bl b =>
    cases rx
    have e' : k = b := e
    subst e'
    exact wpAny_truthy_bool ⟨H, I, q⟩
  | int i =>
    obtain ⟨t, rfl⟩ := rx
    have e' : k = (i != 0) := e
    subst e'
    exact PySem.P.truthy_int ⟨H, I, q⟩
  | str y =>
    obtain ⟨t, rfl⟩ := rx
    obtain ⟨hy, e'⟩ : y.length ≤ sizeLine ∧ k = ((y.length : Int) != 0) := e
    subst e'
    exact PySem.P.truthy_str (by omega) ⟨H, I.tok _, q⟩
  | byt y =>
    obtain ⟨t, rfl⟩ := rx
    obtain ⟨hy, e'⟩ : y.size ≤ sizeLine ∧ k = ((y.size : Int) != 0) := e
    subst e'
    exact PySem.W.truthy_bytes (by omega) ⟨H, I.tok _, q⟩
  | ref p =>
    cases rx
    have e' : (∃ xs, SqL X.K H p xs ∧ k = !xs.isEmpty) ∨ (∃ xs, SqT X.K H p xs ∧ k = !xs.isEmpty) ∨ ∃ kvs, H p = some (.dK kvs) ∧ k = !kvs.isEmpty := e
    rcases e' with ⟨xs, hx, e'⟩ | ⟨xs, hx, e'⟩ | ⟨kvs, hx, e'⟩
    · subst e'
      obtain ⟨its, r, pl, hz⟩ := I.list hx
      have hlen := r.length
      exact wpAny_truthy_list pl.isList (by simp only [List.size_toArray]; omega) ⟨H, I.tok _, by rw [isEmpty_of r]; exact q⟩
    · subst e'
      obtain ⟨its, r, pl, hz⟩ := I.tuple hx
      have hlen := r.length
      exact truthy_tuple pl (by simp only [List.size_toArray]; omega) ⟨H, I.tok _, by rw [isEmpty_of r]; exact q⟩
    · subst e'
      obtain ⟨hz, hS, vs, r, m⟩ : kvs.length ≤ sizeLine ∧ (p == sysModules) = false ∧ ∃ vs, KV kvs vs ∧ s.heap.DictOf (mixKind X.prog X.w) p vs := I.hok p _ hx
      have hlen : kvs.length = vs.length := Paired.length r
      exact wpAny_truthy_dict hS m (by omega) ⟨H, I.tok _, by rw [isEmpty_kv r]; exact q⟩
  | _ => exact (show False from e).elim
theorem op_add_str : OpR X (binaryOp .Add) (fun x y H Q => ∃ i j, x = .str i ∧ y = .str j ∧ i.length + j.length ≤ sizeLine ∧ Q (.str (i ++ j)) H) := by
  intro pins s σ H x y v u Q I rx ry h
  obtain ⟨i, j, rfl, rfl, hz, q⟩ := h
  obtain ⟨t, rfl⟩ := rx
  obtain ⟨t', rfl⟩ := ry
  exact add_str (fun t' tk => ⟨.str (i ++ j), H, I.tok _, ⟨_, rfl⟩, q⟩) hz
theorem vals1 {x : V} {us : List Value} (r : Vals [x] us) : ∃ u, us = [u] ∧ RelV x u := by
  cases r with
  | cons r1 r2 => cases r2; exact ⟨_, rfl, r1⟩
theorem vals2 {x y : V} {us : List Value} (r : Vals [x, y] us) : ∃ u w', us = [u, w'] ∧ RelV x u ∧ RelV y w' := by
  cases r with
  | cons r1 r2 =>
    cases r2 with
    | cons r3 r4 => cases r4; exact ⟨_, _, rfl, r1, r3⟩
theorem call_min2 (hc : X.calm = true) : CallR X (.builtin "min") (fun xs H Q => ∃ i j, xs = [.int i, .int j] ∧ Q (.int (if j < i then j else i)) H) := by
  intro pins s σ H xs us Q I r h
  obtain ⟨i, j, rfl, q⟩ := h
  obtain ⟨u, w', rfl, ⟨t, rfl⟩, ⟨t', rfl⟩⟩ := vals2 r
  refine min_two_ints (I.ok.hd hc) fun h' tk k => ⟨_, H, I.kept k, ?_, q⟩
  by_cases hj : j < i
  · rw [if_pos hj, if_pos hj]; exact ⟨_, rfl⟩
  · rw [if_neg hj, if_neg hj]; exact ⟨_, rfl⟩
theorem call_int1 : CallR X (.type "int") (fun xs H Q => (∃ i, xs = [.int i] ∧ Q (.int i) H) ∨ ∃ k, xs = [.bl k] ∧ Q (.int (if k then 1 else 0)) H) := by
  intro pins s σ H xs us Q I r h
  rcases h with ⟨i, rfl, q⟩ | ⟨k, rfl, q⟩
  · obtain ⟨u, rfl, t, rfl⟩ := vals1 r
    exact call_int_int ⟨.int i, H, I, ⟨_, rfl⟩, q⟩
  · obtain ⟨u, rfl, r1⟩ := vals1 r
    cases r1
    exact call_int_bool ⟨.int (if k then 1 else 0), H, I.tok _, ⟨_, rfl⟩, q⟩
def LenV (K : PySem.W.Frag) (x : V) (H : Hp) (n : Nat) : Prop :=
  match x with
  | .str y => y.length ≤ sizeLine ∧ n = y.length
  | .byt y => y.size ≤ sizeLine ∧ n = y.size
  | .ref p => (∃ xs, SqL K H p xs ∧ n = xs.length) ∨ ∃ xs, SqT K H p xs ∧ n = xs.length
  | _ => False
theorem call_len : CallR X (.builtin "len") (fun xs H Q => ∃ x n, xs = [x] ∧ LenV X.K x H n ∧ Q (.int n) H) := by
  intro pins s σ H xs us Q I r h
  obtain ⟨x, n, rfl, e, q⟩ := h
  obtain ⟨u, rfl, rx⟩ := vals1 r
  have hl := line63
  have hs : sizeLine = 16777216 := sizeLine_eq
  cases x with
  | str y =>
    obtain ⟨t, rfl⟩ := rx
    obtain ⟨hy, e'⟩ : y.length ≤ sizeLine ∧ n = y.length := e
    subst e'
    exact len_str (by omega) ⟨.int _, H, I.tok _, ⟨_, rfl⟩, q⟩
  | byt y =>
    obtain ⟨t, rfl⟩ := rx
    obtain ⟨hy, e'⟩ : y.size ≤ sizeLine ∧ n = y.size := e
    subst e'
    exact PySem.W.len_bytes (by omega) ⟨.int _, H, I.tok _, ⟨_, rfl⟩, q⟩
  | ref p =>
    cases rx
    have e' : (∃ xs, SqL X.K H p xs ∧ n = xs.length) ∨ ∃ xs, SqT X.K H p xs ∧ n = xs.length := e
    rcases e' with ⟨xs, hx, e'⟩ | ⟨xs, hx, e'⟩
    · subst e'
      obtain ⟨its, r', pl, hz⟩ := I.list hx
      have hlen := r'.length
      exact Calls.call_len_list pl.isList (by simp only [List.size_toArray]; omega) ⟨.int xs.length, H, I.tok _, ⟨_, by simp only [List.size_toArray]; rw [hlen]⟩, q⟩
    · subst e'
      obtain ⟨its, r', pl, hz⟩ := I.tuple hx
      have hlen := r'.length
      exact len_tuple pl (by simp only [List.size_toArray]; omega) ⟨.int xs.length, H, I.tok _, ⟨_, by simp only [List.size_toArray]; rw [hlen]⟩, q⟩
  | _ => exact (show False from e).elim
end
end L2
namespace L2
open PySem PySem.Spec PyProof.Rows
structure ObjM (h : Heap) (x dx C : Addr) (mA : Str → Option Value) : Prop where
  obj : h.get? x = some (PySem.W.instObj C dx)
  ns : h.Ns1 dx mA
  ne : dx ≠ x
theorem lookIn_ns {h : Heap} {dx : Addr} {mA : Str → Option Value} (n : h.Ns1 dx mA) : ∃ od, h.get? dx = some od ∧ ∀ name, PySem.W.lookIn name od = some (mA name) := by
  obtain ⟨o, es, ep, ho, hd, hk, _, hm⟩ := n
  refine ⟨o, ho, fun name => ?_⟩
  have e := hm name
  unfold nsFind findBy at e
  rw [← Array.find?_toList] at e
  unfold PySem.W.lookIn
  rw [hd]
  dsimp only
  split
  · rename_i y q
    rw [q] at e
    exact congrArg some e
  · rename_i q
    rw [q] at e
    have a : es.toList.any (·.refKey) = false := by
      rw [List.any_eq_false]
      intro y hy
      obtain ⟨z, t, hkey⟩ := hk y (Array.mem_toList_iff.mp hy)
      simp [DictEntry.refKey, hkey]
    have a' : ¬ es.toList.any (·.refKey) = true := by rw [a]; exact Bool.false_ne_true
    rw [if_neg a']
    exact congrArg some e
theorem ObjM.look {h : Heap} {x dx C : Addr} {mA : Str → Option Value} (I : ObjM h x dx C mA) : ∃ od, PySem.W.InstAt h x (PySem.W.instObj C dx) C (some od) ∧ ∀ name, PySem.W.lookIn name od = some (mA name) :=
  let ⟨od, ho, hl⟩ := lookIn_ns I.ns
  ⟨od, ⟨I.obj, rfl, rfl, ho⟩, hl⟩
section
variable {prog : Program} {w : World} {A : Around} {E : Value → Shared → Prop} {s : Shared} {K : PySem.W.Frag} {x dx C f : Addr} {mA : Str → Option Value} {name : Str} {v : Value}
end
theorem RelO.some_of {v : V} {o : Option Value} (r : RelO (some v) o) : ∃ u, o = some u ∧ RelV v u := by
  cases o with
  | none => exact (show False from r).elim
  | some u => exact ⟨u, rfl, r⟩
section
variable {P : Program} {w : World} {H H' : Hp} {h h' : Heap} {a C dx : Addr} {fs fs' : List (Str × V)}
end
structure Cls (K : PySem.W.Frag) (C : Addr) : Prop where
  pg : PySem.W.plainGet K C Str.empty = true
  hd : PySem.W.hasDictIn K C = true
  po : PySem.W.plainOver K C = true
  sa : PySem.W.findIn K (.ref C) "__setattr__" = some (some (.builtin "object.__setattr__"))
theorem Cls.get {K : PySem.W.Frag} {C : Addr} (c : Cls K C) (f : Str) : PySem.W.plainGet K C f = true := c.pg
section
variable {X : Cx} {pins : List (Addr × Obj)} {σ : St} {H : Hp} {s : Shared} {a C dx : Addr} {fs : List (Str × V)} {f : Str} {v : V} {A : Around} {E : Value → Shared → Prop}
end
section
variable {X : Cx} {o e value : Expr} {f : Str} {pos pos' tpos : Pos} {ta tv : TE}
end
section
variable {X : Cx} {pins : List (Addr × Obj)} {σ : St} {H : Hp} {s : Shared} {A : Around} {E : Value → Shared → Prop} {Q : Value → Shared → Prop} {c : Value} {b : Bool}
end
end L2
namespace L2
open PySem PySem.Spec PyProof.Rows
structure Room (k : Nat) (A : Around) : Prop where
  hd : A.handled = none
  dp : A.depth + 3 * k + 5 < recursionLimit
  un : A.units + 16 * k + 200 < cLine
theorem Room.mono {j k : Nat} {A : Around} (r : Room k A) (h : j ≤ k) : Room j A := ⟨r.hd, by have := r.dp; omega, by have := r.un; omega⟩
theorem Room.deeper {k : Nat} {A : Around} (r : Room (k + 1) A) (env : Env) : Room k (A.deeper env) :=
  ⟨r.hd, by have := r.dp; show A.depth + 1 + 3 * k + 5 < _; omega, by have := r.un; show A.units + 3 + 16 * k + 200 < _; omega⟩
theorem Room.in1 {k : Nat} {A : Around} (r : Room (k + 1) A) : Room k A.in1 :=
  ⟨r.hd, by have := r.dp; show A.depth + 3 * k + 5 < _; omega, by have := r.un; show A.units + 1 + 16 * k + 200 < _; omega⟩
theorem Room.depth {k : Nat} {A : Around} (r : Room k A) : A.depth < recursionLimit := by have := r.dp; omega
theorem Room.units {k : Nat} {A : Around} (r : Room k A) : A.units + 64 < cLine := by have := r.un; omega
def tNil : TA := fun _ H Q => Q [] H
def tCons (ta : TE) (tr : TA) : TA := fun σ H Q => ta σ H fun x H1 => tr σ H1 fun xs H2 => Q (x :: xs) H2
section
variable {X : Cx} {e : Expr} {es : List Expr} {te : TE} {t : TA} {pos : Pos}
theorem pa_nil : PA X [] tNil := fun _ _ _ _ H Q I h => Calls.spliced_nil ⟨[], H, I, .nil, h⟩
theorem pa_cons (ha : PE X e te) (hr : PA X es t) (hs : starEach (e :: es) X.env = (false, eval e X.env) :: starEach es X.env := by rfl) : PA X (e :: es) (tCons te t) := by
  intro pos pins s σ H Q I h
  rw [hs]
  show wpAny _ _ (spliced ((false, eval e X.env) :: backTo pos (starEach es X.env))) _ _ s
  refine Calls.spliced_cons (thn (ha pins s σ H _ I h) fun u s1 ⟨x, H1, I1, r1, q1⟩ => ?_)
  exact thn (hr pos pins s1 σ H1 _ I1 q1) fun us s2 ⟨xs, H2, I2, r2, q2⟩ => ⟨x :: xs, H2, I2, .cons r1 r2, q2⟩
def tTup (t : TA) : TE := fun σ H Q => t σ H fun xs H1 => xs.length ≤ sizeLine ∧ ∀ p, H1 p = none → Q (.ref p) (upd H1 p (.tup xs))
def tLst (t : TA) : TE := fun σ H Q => t σ H fun xs H1 => xs.length ≤ sizeLine ∧ ∀ p, H1 p = none → Q (.ref p) (upd H1 p (.lst xs))
theorem pe_tup {x1} (h : PA X es t) : PE X (.Tuple es x1 pos) (tTup t) := by
  intro pins s σ H Q I hq
  refine wpAny_Tuple_spliced (thn (h pos pins s σ H _ I hq) fun us s1 ⟨xs, H1, I1, r, z, q⟩ => ⟨by rw [← r.length]; exact z, ?_⟩)
  have hf : H1 s1.heap.objs.size = none := I1.hok.fresh (Nat.le_refl _)
  refine ⟨.ref s1.heap.objs.size, upd H1 s1.heap.objs.size (.tup xs), I1.laid (t' := s1.toks) (fun b u e => Heap.get?_push_of_some _ e) (Nat.le_refl _) ?_, rfl, q _ hf⟩
  exact ⟨z, us, r, ⟨_, Heap.get?_push_size _ rfl, rfl, _, rfl⟩⟩
theorem pe_lst (h : PA X es t) : PE X (.List es pos) (tLst t) := by
  intro pins s σ H Q I hq
  refine wpAny_List_spliced (thn (h pos pins s σ H _ I hq) fun us s1 ⟨xs, H1, I1, r, z, q⟩ => ⟨by rw [← r.length]; exact z, ?_⟩)
  have hf : H1 s1.heap.objs.size = none := I1.hok.fresh (Nat.le_refl _)
  refine ⟨.ref s1.heap.objs.size, upd H1 s1.heap.objs.size (.lst xs), I1.laid (t' := s1.toks) (fun b u e => Heap.get?_push_of_some _ e) (Nat.le_refl _) ?_, rfl, q _ hf⟩
  exact ⟨z, us, 0, r, Heap.get?_push_size _ rfl⟩
end
abbrev Sp := List V → Hp → VK → XK → Prop
abbrev CXT := List Env → Hp → Shared → XK → Value → Shared → Prop
structure Env0 (P : Program) (w : World) (K : PySem.W.Frag) (mg : Str → Option Value) (base : Heap) (A : Around) (outer : List Env) (s : Shared) (H : Hp) : Prop where
  frames : A.frames = some outer
  mod : Mod K mg base
  bs : ∀ b o, base.get? b = some o → s.heap.get? b = some o ∧ H b = none
  bsz : base.objs.size ≤ s.heap.objs.size
  funs : s.heap.FunFrames base outer
  frf : ∀ b ∈ frs outer, H b = none
  hok : HOk P w H s.heap
  bare : AllBare s.gens
def CE (outer : List Env) (P : Program) (w : World) (H : Hp) (s : Shared) (Q : VK) (u : Value) (s' : Shared) : Prop :=
  ∃ v H', s'.os = s.os ∧ AllBare s'.gens ∧ Un (frs outer) [] H H' s.heap s'.heap ∧ HOk P w H' s'.heap ∧ RelV v u ∧ Q v H'
def CR (CX : CXT) (outer : List Env) (P : Program) (w : World) (H : Hp) (s : Shared) (Q : VK) (E : XK) (r : Result) (s' : Shared) : Prop :=
  match r with
  | .ok (.ret u) => CE outer P w H s Q u s'
  | .ok _ => False
  | .error e => CX outer H s E e s'
structure FnOk (P : Program) (w : World) (K : PySem.W.Frag) (mg : Str → Option Value) (base : Heap) (CX : CXT) (k : Nat) (f : Addr) (fd : FuncData) (ps : List Str) (sp : Sp) : Prop where
  len : ∀ vs H Q E, sp vs H Q E → vs.length = ps.length
  run : ∀ (A : Around) (outer : List Env) (s : Shared) (H : Hp) (args : Args) (us : List Value) (vs : List V) (Q : VK) (E : XK), Room k A → Env0 P w K mg base A outer s H → BindsTo s fd args (ps.zip us) → Vals vs us → sp vs H Q E →
    codeAny (model P w) A (.call (.ref f) args) (CR CX outer P w H s Q E) s
theorem FnOk.mono {P : Program} {w : World} {K : PySem.W.Frag} {mg : Str → Option Value} {base : Heap} {CX : CXT} {j k : Nat} {f : Addr} {fd : FuncData} {ps : List Str} {sp : Sp} (F : FnOk P w K mg base CX j f fd ps sp) (h : j ≤ k) :
    FnOk P w K mg base CX k f fd ps sp := ⟨F.len, fun A outer s H args us vs Q E hr => F.run A outer s H args us vs Q E (hr.mono h)⟩
theorem FnOk.imp {P : Program} {w : World} {K : PySem.W.Frag} {mg : Str → Option Value} {base : Heap} {CX : CXT} {k : Nat} {f : Addr} {fd : FuncData} {ps : List Str} {sp sp' : Sp} (F : FnOk P w K mg base CX k f fd ps sp)
    (h : ∀ vs H Q E, sp' vs H Q E → sp vs H Q E) : FnOk P w K mg base CX k f fd ps sp' :=
  ⟨fun vs H Q E q => F.len vs H Q E (h _ _ _ _ q), fun A outer s H args us vs Q E hr he hb hv hs => F.run A outer s H args us vs Q E hr he hb hv (h _ _ _ _ hs)⟩
theorem Env0.in1 {P : Program} {w : World} {K : PySem.W.Frag} {mg : Str → Option Value} {base : Heap} {A : Around} {outer : List Env} {s : Shared} {H : Hp} (e : Env0 P w K mg base A outer s H) :
    Env0 P w K mg base A.in1 outer s H := ⟨e.frames, e.mod, e.bs, e.bsz, e.funs, e.frf, e.hok, e.bare⟩
section
variable {X : Cx} {pins : List (Addr × Obj)} {σ : St} {H : Hp} {s s' : Shared}
theorem Inv.env0 (I : Inv X pins σ H s) : Env0 X.prog X.w X.K X.mg X.base X.A X.stack s H :=
  ⟨I.ok.frames, I.ok.mod, I.bs, Nat.le_trans I.ok.bsz I.sz, I.stack, I.stkFree, I.hok, I.bare⟩
theorem Inv.after {Q : VK} {u : Value} (I : Inv X pins σ H s) (h : CE X.stack X.prog X.w H s Q u s') : EP X pins σ Q u s' := by
  obtain ⟨v, H', os, bare, un, hok, r, q⟩ := h
  obtain ⟨hh, g, d, t, os'⟩ := s'
  obtain rfl : os' = s.os := os
  exact ⟨v, H', I.call (h' := hh) (g' := g) (d' := d) (t' := t) (ch := []) un hok bare (fun b z => absurd z (by simp)), r, q⟩
end
def tCall (sp : Sp) (dvs : List V) (E : XK) (t : TA) : TE := fun σ H Q => t σ H fun vs H1 => sp (vs ++ dvs) H1 Q E
def Binds (K : PySem.W.Frag) (fd : FuncData) (ps : List Str) (ds : List Value) : Prop :=
  ∀ (s : Shared) (us : List Value), K.In s.heap → (us ++ ds).length = ps.length → BindsTo s fd ⟨us, []⟩ (ps.zip (us ++ ds))
theorem Binds.all {K : PySem.W.Frag} {fd : FuncData} {ps : List Str} (h : ∀ us : List Value, us.length = ps.length → bindArgs fd ⟨us, []⟩ = pure (ps.zip us)) : Binds K fd ps [] := fun s us _ hl => by
  rw [List.append_nil] at hl ⊢
  exact .of_eq (h us hl)
def Passes (CX : CXT) (X : Cx) (E : XK) : Prop := ∀ (pins : List (Addr × Obj)) (σ : St) (H : Hp) (s : Shared) (e : Value) (s' : Shared), Inv X pins σ H s → CX X.stack H s E e s' → X.xe e s'
section
variable {X : Cx} {CX : CXT} {k : Nat} {f C : Addr} {fd : FuncData} {ps : List Str} {sp : Sp} {dvs : List V} {ds : List Value} {E : XK} {x m : Str} {p pos apos : Pos} {e o : Expr} {es : List Expr} {ta : TE} {t : TA}
theorem run_fn {pins : List (Addr × Obj)} {σ : St} {H : Hp} {s : Shared} {Q : VK} {us : List Value} {vs : List V} (F : FnOk X.prog X.w X.K X.mg X.base CX k f fd ps sp) (hr : Room k X.A) (hb : Binds X.K fd ps ds) (hd : Vals dvs ds) (hx : Passes CX X E)
    (I : Inv X pins σ H s) (r : Vals vs us) (h : sp (vs ++ dvs) H Q E) : wpAny (model X.prog X.w) X.A (call (.ref f) us) (EP X pins σ Q) X.xe s := by
  have r2 : Vals (vs ++ dvs) (us ++ ds) := r.append hd
  have hl : (us ++ ds).length = ps.length := by rw [← r2.length]; exact F.len _ _ _ _ h
  refine wpAny_call (codeAny_mono (F.run X.A X.stack s H ⟨us, []⟩ (us ++ ds) (vs ++ dvs) Q E hr I.env0 (hb s us I.kIn hl) r2 h) fun r s' hq => ?_)
  cases r with
  | error e => exact hx pins σ H s e s' I hq
  | ok fl =>
    cases fl with
    | ret u => exact I.after hq
    | next => exact False.elim hq
    | brk => exact False.elim hq
    | cont => exact False.elim hq
theorem pe_call (F : FnOk X.prog X.w X.K X.mg X.base CX k f fd ps sp) (hr : Room k X.A) (hg : Gl X x) (hm : X.mg x = some (.ref f)) (hk : PySem.W.keepIn X.K (.ref f) = true) (hb : Binds X.K fd ps ds) (hd : Vals dvs ds) (hx : Passes CX X E)
    (ha : PA X (e :: es) t) (hdb : (x == ("__debug__" : Str)) = false := by decide) (he : starEach (e :: es) X.env = (false, eval e X.env) :: starEach es X.env := by rfl) (hpl : (backTo pos (starEach es X.env)).any (·.1) = false := by rfl) :
    PE X (.Call (.Name x p) (e :: es) [] pos) (tCall sp dvs E t) := by
  intro pins s σ H Q I h
  refine wpAny_Call_Name_kw (ld_glob I hg hm ?_ hdb)
  refine PySem.W.callWith_K (h₀ := X.base) I.ok.mod.kin hk (thn (ha pos pins s σ H _ I h) fun us s1 ⟨vs, H1, I1, r, q⟩ => ⟨I1.kIn, ?_⟩) he hpl
  exact run_fn F hr hb hd hx I1 r q
end
section
variable {X : Cx} {CX : CXT} {k : Nat} {f C : Addr} {fd : FuncData} {ps ks : List Str} {sp : Sp} {E : XK} {x m : Str} {p pos apos kpos : Pos} {e o : Expr} {es : List Expr} {kws : List Keyword} {te ta : TE} {t tk : TA} {nm : Option Str}
variable {g : List Value → List Value → List Value} {gV : List V → List V → List V}
end
structure FnScope (N P : List Str) (sc : Scope) : Prop where
  kind : sc.kind = .function
  co : sc.isCoroutine = false
  gen : sc.isGenerator = false
  nd : N.Nodup
  pre : N.take P.length = P
  par : ∀ x ∈ P, sc.names.lookup x = some .local ∨ sc.names.lookup x = some .cell
  nofree : ∀ y ∈ sc.names, y.2 ≠ .free
theorem bindL_out {kindOf : Str → Option NameKind} {x : Str} : ∀ {binds : List (Str × Value)} {m : Str → Option Value}, (∀ v, (x, v) ∉ binds) → bindL kindOf binds m x = m x
  | [], _, _ => rfl
  | (n, v) :: r, m, h => by
    unfold bindL
    rw [bindL_out fun w hw => h w (List.mem_cons_of_mem _ hw)]
    split
    · have : x ≠ n := by rintro rfl; exact h v List.mem_cons_self
      simp [this]
    · rfl
theorem bindC_out {kindOf : Str → Option NameKind} {x : Str} : ∀ {binds : List (Str × Value)} {m : Str → Option Value}, (∀ v, (x, v) ∉ binds) → bindC kindOf binds m x = m x
  | [], _, _ => rfl
  | (n, v) :: r, m, h => by
    unfold bindC
    rw [bindC_out fun w hw => h w (List.mem_cons_of_mem _ hw)]
    split
    · rfl
    · have : x ≠ n := by rintro rfl; exact h v List.mem_cons_self
      simp [this]
theorem bindL_get {kindOf : Str → Option NameKind} {x : Str} {v : Value} : ∀ {P : List Str} {vs : List Value} {i : Nat} {m : Str → Option Value}, P.Nodup → P[i]? = some x → vs[i]? = some v → kindOf x = some .local →
    bindL kindOf (P.zip vs) m x = some v
  | [], _, _, _, _, h, _, _ => by simp at h
  | _ :: _, [], _, _, _, _, h, _ => by simp at h
  | p :: P, w :: vs, 0, m, nd, h1, h2, hk => by
    simp at h1 h2; subst h1; subst h2
    show bindL kindOf ((p, w) :: P.zip vs) m p = _
    unfold bindL
    rw [bindL_out fun v hv => (List.nodup_cons.mp nd).1 (List.of_mem_zip hv).1, if_pos hk]
    simp
  | p :: P, w :: vs, i + 1, m, nd, h1, h2, hk => by
    show bindL kindOf ((p, w) :: P.zip vs) m x = _
    unfold bindL
    exact bindL_get (i := i) (List.nodup_cons.mp nd).2 (by simpa using h1) (by simpa using h2) hk
theorem bindC_get {kindOf : Str → Option NameKind} {x : Str} {v : Value} : ∀ {P : List Str} {vs : List Value} {i : Nat} {m : Str → Option Value}, P.Nodup → P[i]? = some x → vs[i]? = some v → kindOf x ≠ some .local →
    bindC kindOf (P.zip vs) m x = some v
  | [], _, _, _, _, h, _, _ => by simp at h
  | _ :: _, [], _, _, _, _, h, _ => by simp at h
  | p :: P, w :: vs, 0, m, nd, h1, h2, hk => by
    simp at h1 h2; subst h1; subst h2
    show bindC kindOf ((p, w) :: P.zip vs) m p = _
    unfold bindC
    rw [bindC_out fun v hv => (List.nodup_cons.mp nd).1 (List.of_mem_zip hv).1, if_neg hk]
    simp
  | p :: P, w :: vs, i + 1, m, nd, h1, h2, hk => by
    show bindC kindOf ((p, w) :: P.zip vs) m x = _
    unfold bindC
    exact bindC_get (i := i) (List.nodup_cons.mp nd).2 (by simpa using h1) (by simpa using h2) hk
def start (N : List Str) (vs : List V) : St := vs.map some ++ List.replicate (N.length - vs.length) none
def cxOf (CX : CXT) (P : Program) (w : World) (K : PySem.W.Frag) (mg : Str → Option Value) (base : Heap) (N : List Str) (qual : Str) (scope : Scope) (f : Addr) (cd : Value) (A : Around) (outer : List Env) (s : Shared) (H : Hp) (E : XK) : Cx where
  prog := P
  w := w
  K := K
  mg := mg
  base := base
  A := A.deeper (envOfC qual scope s.heap.objs.size f cd)
  N := N
  s₀ := s
  H₀ := H
  env := envOfC qual scope s.heap.objs.size f cd
  outer := outer
  stack := envOfC qual scope s.heap.objs.size f cd :: outer
  ex := []
  calm := true
  fn := fun _ => true
  pn := []
  xe := fun e s' => wpAny (model P w) (A.deeper (envOfC qual scope s.heap.objs.size f cd)) (leaving (envOfC qual scope s.heap.objs.size f cd) e) (fun _ s'' => CX outer H s E e s'') (fun e' s'' => CX outer H s E e' s'') s'
theorem cell_has {sc : Scope} {n : Nat} {x : Str} (h : sc.names.lookup x = some .cell) : ∃ c, (cellsFrom n sc.names []).lookup x = some c := by
  have q := PySem.W.cellsFrom_some sc.names n [] (.inl h)
  exact Option.isSome_iff_exists.mp q
theorem inv_start {CX : CXT} {P : Program} {w : World} {K : PySem.W.Frag} {mg : Str → Option Value} {base : Heap} {N ps : List Str} {qual : Str} {scope : Scope} {f : Addr} {cd : Value} {A : Around} {outer : List Env} {s s1 : Shared} {H : Hp} {E : XK} {us : List Value} {vs : List V}
    (S : FnScope N ps scope) (hd : A.handled = none) (e0 : Env0 P w K mg base A outer s H) (hl : vs.length = ps.length) (r : Vals vs us)
    (x : InCallC s s.heap.objs.size (bindL (envOfC qual scope s.heap.objs.size f cd).kindOf (ps.zip us) fun _ => none) (cellsFrom (s.heap.objs.size + 1) scope.names []) (bindC (envOfC qual scope s.heap.objs.size f cd).kindOf (ps.zip us) fun _ => none) s1) :
    Inv (cxOf CX P w K mg base N qual scope f cd A outer s H E) [] (start N vs) H s1 := by
  have hpl : ps.length ≤ N.length := by have := congrArg List.length S.pre; rw [List.length_take] at this; omega
  obtain ⟨h1, tk, rfl, hk⟩ := x.done
  have noA : ∀ b : Addr, b ∉ (cxOf CX P w K mg base N qual scope f cd A outer s H E).ex := fun b z => absurd (show b ∈ ([] : List Addr) from z) (by simp)
  refine ⟨⟨e0.mod, S.kind, rfl, rfl, Nat.le_refl _, fun y z c h1 h2 => ?_, fun y hy => ?_, fun y c _ h => ?_, fun _ => hd, Around.frames_deeper e0.frames, .inr ⟨rfl, rfl⟩, fun b z => absurd z (noA b), e0.bs, e0.bsz, fun b _ _ => noA b, fun b z => absurd z (noA b), e0.funs, e0.frf⟩,
    rfl, e0.bare, Un.kept hk, ⟨_, x.toInCall.ns, fun i y v h1 h2 h3 => ?_⟩, fun y c h => ⟨_, x.cell y c h⟩, e0.hok.fresh (Nat.le_refl _), fun y c h => ?_, fun p hp => absurd (show p ∈ ([] : List (Addr × Obj)) from hp) (by simp), e0.hok.kept hk, ?_⟩
  · exact name_of_addr x.apart (PySem.mem_of_lookup h1) (PySem.mem_of_lookup h2)
  · have hy : scope.names.lookup y = some .cell ∨ scope.names.lookup y = some .free := hy
    rcases hy with hy | hy
    · exact cell_has hy
    · exact absurd rfl (S.nofree _ (PySem.mem_of_lookup hy))
  · exact Nat.le_of_lt (x.above y c (PySem.mem_of_lookup h))
  · have hi : i < vs.length := by
      unfold start at h2
      by_cases hi : i < vs.length
      · exact hi
      · rw [List.getElem?_append_right (by simpa using hi)] at h2
        rw [List.getElem?_replicate] at h2
        split at h2 <;> cases h2
    have ha : vs[i]? = some v := by
      unfold start at h2
      rw [List.getElem?_append_left (by simpa using hi), List.getElem?_map] at h2
      cases e : vs[i]? with
      | none => rw [e] at h2; cases h2
      | some a => rw [e] at h2; cases h2; rfl
    obtain ⟨u, hu, rv⟩ := r.get ha
    have hp : ps[i]? = some y := by
      rw [← S.pre, List.getElem?_take_of_lt (by omega)]; exact h1
    have ndP : ps.Nodup := by rw [← S.pre]; exact S.nd.sublist (List.take_sublist _ _)
    refine ⟨u, rv, ?_⟩
    rcases S.par y (List.mem_of_getElem? hp) with k | k
    · exact .inl ⟨k, bindL_get ndP hp hu k⟩
    · obtain ⟨c, e⟩ := cell_has (n := s.heap.objs.size + 1) k
      refine .inr ⟨.inl k, c, e, ?_⟩
      have q := x.cell y c e
      rw [bindC_get ndP hp hu (by show scope.names.lookup y ≠ _; rw [k]; decide)] at q
      exact q
  · exact e0.hok.fresh (Nat.le_of_lt (x.above y c (PySem.mem_of_lookup h)))
  · unfold start
    show _ = N.length
    rw [List.length_append, List.length_map, List.length_replicate]
    omega
theorem fn_of {CX : CXT} {P : Program} {w : World} {K : PySem.W.Frag} {mg : Str → Option Value} {base : Heap} {k : Nat} {f : Addr} {name qual : Str} {params : Arguments} {body : List Stmt} {scope : Scope} {dV kV doc pm cdv ct oc : Value} {an od : Option Addr}
    {osl : Array (Option Value)} {N ps : List Str} {sp : Sp} (lk : K.lookup f = some ⟨oc, od, .func (PySem.W.fnOf name qual params body scope dV kV doc pm an cdv ct), osl⟩) (hcd : PySem.W.codeIn K cdv qual = true) (S : FnScope N ps scope)
    (len : ∀ vs H Q E, sp vs H Q E → vs.length = ps.length)
    (hbody : ∀ (A : Around) (outer : List Env) (s : Shared) (H : Hp) (vs : List V) (Q : VK) (E : XK), Room k (A.deeper (envOfC qual scope s.heap.objs.size f cdv)) → sp vs H Q E →
      ∃ t, PSs (cxOf CX P w K mg base N qual scope f cdv A outer s H E) body t ∧ t { nx := fun _ H' => Q .non H', rt := Q } (start N vs) H) :
    FnOk P w K mg base CX (k + 1) f (PySem.W.fnOf name qual params body scope dV kV doc pm an cdv ct) ps sp := by
  refine ⟨len, fun A outer s H args us vs Q E hr e0 hb r hsp => ?_⟩
  have hl := len _ _ _ _ hsp
  have KX : K.In s.heap := e0.mod.kin.keeps fun b o e => (e0.bs b o e).1
  have lim : s.heap.NoLimit := e0.mod.nolimit.keeps fun b o e => (e0.bs b o e).1
  have hkind : ∀ y ∈ ps.zip us, scope.names.lookup y.1 = some .local ∨ (scope.names.lookup y.1 = some .cell ∧ ((cellsFrom (s.heap.objs.size + 1) scope.names []).lookup y.1).isSome = true) := fun ⟨n, v⟩ hy => by
    rcases S.par n (List.of_mem_zip hy).1 with q | q
    · exact .inl q
    · exact .inr ⟨q, PySem.W.cellsFrom_some _ _ _ (.inl q)⟩
  refine codeAny_call_function hr.depth (KX _ _ lk) rfl S.co S.gen rfl (PySem.W.codeRec_of KX hcd) (hb _ _ _ _ ?_)
  refine wpAny_newFunctionEnv_cells S.kind hkind fun env he s1 x => ?_
  subst he
  refine ⟨lim.keeps x.toInCall.keep, codeAny_func ?_⟩
  obtain ⟨t, ht, hq⟩ := hbody A outer s H vs Q E (hr.deeper _) hsp
  have I : Inv (cxOf CX P w K mg base N qual scope f cdv A outer s H E) [] (start N vs) H s1 := inv_start S hr.hd e0 hl r x
  refine wpAny_mono (ht [] s1 (start N vs) H _ I hq) (fun fl s' hs => ?_) fun e s' hs => hs
  have fin : ∀ {σ' : St} {H' : Hp} {v : V} {u : Value}, Inv (cxOf CX P w K mg base N qual scope f cdv A outer s H E) [] σ' H' s' → RelV v u → Q v H' → CE outer P w H s Q u s' :=
    fun {σ' H' v u} J rv q => ⟨v, H', J.os, J.bare, J.base, J.hok, rv, q⟩
  cases fl with
  | ret u =>
    obtain ⟨v, σ', H', J, rv, q⟩ := hs
    exact fin J rv q
  | next =>
    obtain ⟨σ', H', J, q⟩ := hs
    exact fin (v := V.non) (u := Value.none) J rfl q
  | brk =>
    obtain ⟨_, _, _, q⟩ := hs
    exact False.elim q
  | cont =>
    obtain ⟨_, _, _, q⟩ := hs
    exact False.elim q
end L2
namespace L2
open PySem PySem.Spec PyProof.Rows
section
variable {X : Cx} {x : Str} {p pos : Pos} {e : Expr} {es : List Expr} {t : TA} {id T : String} {r : List V → Hp → VK → Prop}
def tCB (r : List V → Hp → VK → Prop) (t : TA) : TE := fun σ H Q => t σ H fun vs H1 => r vs H1 Q
theorem pe_callB (hc : CallR X (.builtin id) r) (hg : Gl X x) (hm : X.mg x = none) (hv : bootBuiltins x = some (.builtin id)) (ha : PA X (e :: es) t) (hn : x ≠ "__name__" := by decide) (hdb : (x == ("__debug__" : Str)) = false := by decide)
    (he : starEach (e :: es) X.env = (false, eval e X.env) :: starEach es X.env := by rfl) (hpl : (backTo pos (starEach es X.env)).any (·.1) = false := by rfl) : PE X (.Call (.Name x p) (e :: es) [] pos) (tCB r t) := by
  intro pins s σ H Q I h
  refine wpAny_Call_Name_kw (ld_blt I hg hm hv ?_ hn hdb)
  exact PyProof.Rows.callWith_builtin1 (thn (ha pos pins s σ H _ I h) fun us s1 ⟨vs, H1, I1, r1, q1⟩ => hc pins s1 σ H1 vs us Q I1 r1 q1) he hpl
theorem pe_callTy (hc : CallR X (.type T) r) (hg : Gl X x) (hm : X.mg x = none) (hv : bootBuiltins x = some (.type T)) (ha : PA X (e :: es) t) (hn : x ≠ "__name__" := by decide) (hdb : (x == ("__debug__" : Str)) = false := by decide)
    (he : starEach (e :: es) X.env = (false, eval e X.env) :: starEach es X.env := by rfl) (hpl : (backTo pos (starEach es X.env)).any (·.1) = false := by rfl) : PE X (.Call (.Name x p) (e :: es) [] pos) (tCB r t) := by
  intro pins s σ H Q I h
  refine wpAny_Call_Name_kw (ld_blt I hg hm hv ?_ hn hdb)
  exact PyProof.Rows.callWith_type1 (thn (ha pos pins s σ H _ I h) fun us s1 ⟨vs, H1, I1, r1, q1⟩ => hc pins s1 σ H1 vs us Q I1 r1 q1) he hpl
end
end L2
namespace HT
open PySem PyProof.Rows
section
open PySem.SeqAt
open PySem.AutoSeq1 (wpAny_loadPart')
open PySem.MeetsSeq PySem.MeetsSeq2 PySem.MeetsSeq3
end
section
variable {prog : Program} {w : World} {A : Around} {E : Value → Shared → Prop} {s : Shared}
theorem cat_tup {t b : Addr} {vs ws : List Value} {Q : Value → Shared → Prop} (ht : IsTup s.heap t vs.toArray) (hb : IsTup s.heap b ws.toArray) (hv : vs ≠ [])
    (h1 : ws = [] → Q (.ref t) s) (h2 : ws ≠ [] → Q (.ref s.heap.objs.size) { s with heap := s.heap.push { cls := .type "tuple", data := .seq (vs ++ ws).toArray } })
    (hsz : vs.length + ws.length ≤ sizeLine) : wpAny (model prog w) A (binaryOp .Add (.ref t) (.ref b)) Q E s := by
  obtain ⟨⟨cls, dd, data, sl⟩, ho, hc, n, hd⟩ := id ht
  obtain ⟨⟨cls2, dd2, data2, sl2⟩, ho2, hc2, n2, hd2⟩ := id hb
  simp only at hc hd hc2 hd2
  subst hc hd hc2 hd2
  have e : vs.toArray ++ ws.toArray = (vs ++ ws).toArray := by simp
  by_cases hw : ws = []
  · exact concat_meets ⟨_, ho, rfl⟩ ⟨_, ho2, rfl⟩ noFill_tuple_add seq_tuple_add PySem.F.slot_tuple_add PySem.F.entry_tuple_add (PySem.F.args_tuple_add_2 _ _)
      (tuple_addW1 t b vs.toArray ws.toArray n n2 dd dd2 sl sl2 (by simpa using hv) (by simp [hw])) ⟨ho, ho2, h1 hw⟩
  · refine concat_meets ⟨_, ho, rfl⟩ ⟨_, ho2, rfl⟩ noFill_tuple_add seq_tuple_add PySem.F.slot_tuple_add PySem.F.entry_tuple_add (PySem.F.args_tuple_add_2 _ _)
      (tuple_addW2 t b vs.toArray ws.toArray n n2 dd dd2 sl sl2 (by simpa using hv) (by simpa using hw) (by rw [List.size_toArray, List.size_toArray]; exact hsz)) ⟨ho, ho2, ?_⟩
    rw [e]
    exact h2 hw
def sIx (n d : Nat) : Option Int → Nat
  | none => d
  | some v => if v < 0 then (v + (n : Int)).toNat else min v.toNat n
theorem sIx_none (n d : Nat) : sIx n d none = d := rfl
theorem sIx_nat (n d k : Nat) : sIx n d (some (k : Int)) = min k n := by
  show (if (k : Int) < 0 then ((k : Int) + (n : Int)).toNat else min (k : Int).toNat n) = min k n
  rw [if_neg (by omega), Int.toNat_natCast]
theorem sIx_le (n d : Nat) (hd : d ≤ n) (o : Option Int) : sIx n d o ≤ n := by
  cases o with
  | none => exact hd
  | some v =>
    show (if v < 0 then (v + (n : Int)).toNat else min v.toNat n) ≤ n
    by_cases hv : v < 0
    · rw [if_pos hv]; omega
    · rw [if_neg hv]; exact Nat.min_le_right _ _
theorem clip_eq (v : Int) (n d : Nat) : (if v < 0 then max (v + (n : Int)) 0 else min v (n : Int)) = ((sIx n d (some v) : Nat) : Int) := by
  show (if v < 0 then max (v + (n : Int)) 0 else min v (n : Int)) = (((if v < 0 then (v + (n : Int)).toNat else min v.toNat n) : Nat) : Int)
  by_cases hv : v < 0
  · simp only [if_pos hv]; omega
  · simp only [if_neg hv]; omega
theorem adjust_gen (lo hi : Option Int) (n : Nat) : Builtin.Slice.sliceAdjust lo hi 1 (n : Int) = (((sIx n 0 lo : Nat) : Int), ((sIx n n hi : Nat) : Int)) := by
  have h1 : ¬ ((1 : Int) < 0) := by omega
  unfold Builtin.Slice.sliceAdjust
  simp only [h1, if_false]
  refine Prod.ext ?_ ?_
  · cases lo with
    | none => rfl
    | some v => exact clip_eq v n 0
  · cases hi with
    | none => rfl
    | some v => exact clip_eq v n n
theorem places_gen (i j : Nat) : Builtin.Slice.slicePlaces (i : Int) (j : Int) 1 = j - i := by
  unfold Builtin.Slice.slicePlaces
  have h1 : (1 : Int) > 0 := by omega
  simp only [h1, if_true, Int.ediv_one]
  split <;> omega
theorem slicePart_ {v : Value} {o : Option Int} {Q : Option Int → Shared → Prop} (p : IsPart v o) (h : Q o s) : wpAny (model prog w) A (Builtin.Slice.slicePartIndex v) Q E s := by
  cases p with
  | none => exact slicePart_none h
  | int i t => exact slicePart_int h
theorem sliceApplied_gen {sl : Addr} {vl vu : Value} {lo hi : Option Int} {n : Nat} {Q : Int × Int × Nat → Shared → Prop} (hs : s.heap.IsSliceOf sl vl vu .none) (pl : IsPart vl lo) (pu : IsPart vu hi)
    (h : Q (((sIx n 0 lo : Nat) : Int), 1, sIx n n hi - sIx n 0 lo) s) : wpAny (model prog w) A (Builtin.Slice.sliceApplied (.ref sl) (pure (n : Int))) Q E s := by
  obtain ⟨os, hos, hcs, hds⟩ := id hs
  unfold Builtin.Slice.sliceApplied Builtin.Slice.sliceFields
  refine wpAny_bind (wpAny_bind (wpAny_field hos hds (x := vl) rfl (wpAny_bind (wpAny_field hos hds (x := vu) rfl (wpAny_bind (wpAny_field hos hds (x := .none) rfl (wpAny_pure ?_)))))))
  refine wpAny_bind (slicePart_none ?_)
  show wpAny _ _ (if ((1 : Int) == 0) = true then _ else _) _ _ s
  rw [if_neg (by decide)]
  refine wpAny_bind (slicePart_ pl (wpAny_bind (slicePart_ pu (wpAny_bind (wpAny_pure ?_)))))
  show wpAny _ _ (match Builtin.Slice.sliceAdjust lo hi 1 (n : Int) with | (lo, hi) => pure (lo, (1 : Int), Builtin.Slice.slicePlaces lo hi 1)) _ _ s
  rw [adjust_gen lo hi n]
  show wpAny _ _ (pure (((sIx n 0 lo : Nat) : Int), (1 : Int), Builtin.Slice.slicePlaces ((sIx n 0 lo : Nat) : Int) ((sIx n n hi : Nat) : Int) 1)) _ _ s
  rw [places_gen]
  exact wpAny_pure h
theorem pick_gen (xs : Array Value) (i k : Nat) : ((List.range k).filterMap fun (m : Nat) => xs[((i : Int) + (m : Int) * 1).toNat]?).toArray = ((xs.toList.drop i).take k).toArray := by
  have e : (fun (m : Nat) => xs[((i : Int) + (m : Int) * 1).toNat]?) = fun m => xs[i + m]? := by
    funext m
    have : ((i : Int) + (m : Int) * 1).toNat = i + m := by omega
    rw [this]
  rw [e]
  have := pick_run xs i k
  rw [List.filterMap_map] at this
  have e2 : ((fun x => xs[x]?) ∘ fun x => i + x) = fun m => xs[i + m]? := rfl
  rw [e2] at this
  rw [this]
theorem getItem_tuple_cut {t sl : Addr} {items : Array Value} {vl vu : Value} {lo hi : Option Int} {Q : Value → Shared → Prop} (ht : IsTup s.heap t items) (hs : s.heap.IsSliceOf sl vl vu .none) (pl : IsPart vl lo) (pu : IsPart vu hi)
    (hw : ¬ (sIx items.size 0 lo = 0 ∧ sIx items.size items.size hi = items.size))
    (h : Q (.ref s.heap.objs.size) { s with heap := s.heap.push { cls := .type "tuple", data := .seq ((items.toList.drop (sIx items.size 0 lo)).take (sIx items.size items.size hi - sIx items.size 0 lo)).toArray } })
    (hsz : items.size ≤ sizeLine) : wpAny (model prog w) A (getItem (.ref t) (.ref sl)) Q E s := by
  have htake : sizeOk (.seq ((items.toList.drop (sIx items.size 0 lo)).take (sIx items.size items.size hi - sIx items.size 0 lo)).toArray) := by
    show ((items.toList.drop (sIx items.size 0 lo)).take (sIx items.size items.size hi - sIx items.size 0 lo)).toArray.size ≤ sizeLine
    rw [List.size_toArray, List.length_take, List.length_drop, Array.length_toList]
    omega
  have hj : sIx items.size items.size hi ≤ items.size := sIx_le _ _ (Nat.le_refl _) hi
  obtain ⟨os, hos, hcs, hds⟩ := id hs
  have hTs : s.TypeIs (.ref sl) "slice" := ⟨os, hos, hcs⟩
  unfold getItem
  try with_reducible refine wpAny_holding ?_
  first | refine wpAny_bind (wpAny_pure ?_) | skip
  refine wpAny_bind (wpAny_sequenceKey ht.typeIs (by decide) ?_)
  refine wpAny_bind (wpAny_callSpecial?_slot (name := Str.ofString "__getitem__") ht.typeIs PyProof.Rows.slot_tuple_getitem
    (wpAny_call_entry PyProof.Rows.slot_tuple_getitem ht.typeIs entry_tuple_getitem ?_ (args_tuple_getitem _ _)))
  show wpAny _ _ (Builtin.Tuple.tupleItemsOf (.ref t) >>= _) _ _ s
  refine wpAny_bind (tupleItemsOf_ ht ?_)
  refine wpAny_bind (wpAny_typeOf hTs ?_)
  rw [if_pos (by decide)]
  refine wpAny_bind (sliceApplied_gen hs pl pu ?_)
  have hno : ¬ ((((sIx items.size 0 lo : Nat) : Int) == 0 && (1 : Int) == 1 && (sIx items.size items.size hi - sIx items.size 0 lo) == items.size) = true) := by
    intro q
    rw [Bool.and_eq_true, Bool.and_eq_true] at q
    have q1 : ((sIx items.size 0 lo : Nat) : Int) = 0 := eq_of_beq q.1.1
    have q2 : sIx items.size items.size hi - sIx items.size 0 lo = items.size := eq_of_beq q.2
    exact hw ⟨by omega, by omega⟩
  show wpAny _ _ (if (((sIx items.size 0 lo : Nat) : Int) == 0 && (1 : Int) == 1 && (sIx items.size items.size hi - sIx items.size 0 lo) == items.size) = true then _ else _) _ _ s
  rw [if_neg hno, pick_gen]
  first
    | exact wpAny_bind (m := Builtin.Tuple.tupleExact _) (wpAny_newObj_type (wpAny_pure ⟨_, rfl, wpAny_pure h⟩) htake)
    | exact wpAny_bind (m := Builtin.Tuple.tupleExact _) (wpAny_newObj_type (wpAny_bind (wpAny_pure (wpAny_pure ⟨_, rfl, wpAny_pure h⟩))) htake)
    | exact wpAny_bind (wpAny_bind (m := Builtin.Tuple.tupleExact _) (wpAny_newObj_type (wpAny_pure (wpAny_pure ⟨_, rfl, wpAny_pure h⟩)) htake))
    | exact wpAny_bind (wpAny_bind (m := Builtin.Tuple.tupleExact _) (wpAny_newObj_type (wpAny_pure ⟨_, rfl, wpAny_pure h⟩) htake))
end
end HT
namespace L2
open PySem PySem.Spec PyProof.Rows
abbrev TO := St → Hp → (Option Int → Hp → Prop) → Prop
def PO (X : Cx) (e : Option Expr) (t : TO) : Prop :=
  ∀ (pins : List (Addr × Obj)) (s : Shared) (σ : St) (H : Hp) (Q : Option Int → Hp → Prop), Inv X pins σ H s → t σ H Q →
    wpAny (model X.prog X.w) X.A (evalPart e X.env) (fun u s' => ∃ o H', Inv X pins σ H' s' ∧ IsPart u o ∧ Q o H') X.xe s
def tNoPart : TO := fun _ H Q => Q none H
def tPart (t : TE) : TO := fun σ H Q => t σ H fun x H1 => ∃ i, x = .int i ∧ Q (some i) H1
theorem intsAre_of {ns : List Int} : ∀ {us : List Value}, Vals (ns.map V.int) us → IntsAre us ns := by
  induction ns with
  | nil => intro us r; rw [List.map_nil] at r; cases r; exact .nil
  | cons n ns ih =>
    intro us r
    rw [List.map_cons] at r
    cases r with
    | cons r1 r2 =>
      obtain ⟨t, e⟩ := r1
      subst e
      exact .cons n t (ih r2)
section
variable {X : Cx} {e : Expr} {te : TE} {lo hi : Option Expr} {tl th : TO} {pos p2 : Pos}
theorem po_none : PO X none tNoPart := by
  intro pins s σ H Q I h
  rw [evalPart_none]
  exact wpAny_pure ⟨none, H, I, .none, h⟩
theorem po_some (h : PE X e te) : PO X (some e) (tPart te) := by
  intro pins s σ H Q I hw
  rw [evalPart_some]
  refine thn (h pins s σ H _ I hw) fun u s1 ⟨x, H1, I1, r1, q1⟩ => ?_
  obtain ⟨i, rfl, q⟩ := q1
  obtain ⟨t, rfl⟩ := r1
  exact ⟨some i, H1, I1, .int i t, q⟩
def SlR (X : Cx) (r : V → Option Int → Option Int → Hp → VK → Prop) : Prop :=
  ∀ (pins : List (Addr × Obj)) (s : Shared) (σ : St) (H : Hp) (x : V) (v vl vu : Value) (lo hi : Option Int) (sl : Addr) (Q : VK), Inv X pins σ H s → RelV x v → s.heap.IsSliceOf sl vl vu .none → IsPart vl lo → IsPart vu hi → r x lo hi H Q →
    ∃ T id, typeLookup (.type T) "__getitem__" = pure (some (.builtin id)) ∧ s.TypeIs v T ∧ wpAny (model X.prog X.w) X.A (getItem v (.ref sl)) (EP X pins σ Q) X.xe s
theorem SlR.or {r r' : V → Option Int → Option Int → Hp → VK → Prop} (h : SlR X r) (h' : SlR X r') : SlR X (fun x lo hi H Q => r x lo hi H Q ∨ r' x lo hi H Q) := by
  intro pins s σ H x v vl vu lo hi sl Q I rx hs pl pu q
  rcases q with q | q
  · exact h pins s σ H x v vl vu lo hi sl Q I rx hs pl pu q
  · exact h' pins s σ H x v vl vu lo hi sl Q I rx hs pl pu q
def tSl (r : V → Option Int → Option Int → Hp → VK → Prop) (te : TE) (tl th : TO) : TE := fun σ H Q => te σ H fun x H1 => tl σ H1 fun l H2 => th σ H2 fun u H3 => r x l u H3 Q
theorem pe_slice {r : V → Option Int → Option Int → Hp → VK → Prop} (hr : SlR X r) (he : PE X e te) (hl : PO X lo tl) (hu : PO X hi th) : PE X (.Subscript e (.Slice lo hi none p2) pos) (tSl r te tl th) := by
  intro pins s σ H Q I h
  refine Subscript_ (thn (he pins s σ H _ I h) fun v s1 ⟨x, H1, I1, r1, q1⟩ => ?_)
  refine wpAny_Slice (thn (hl pins s1 σ H1 _ I1 q1) fun vl s2 ⟨l, H2, I2, pl, q2⟩ => thn (hu pins s2 σ H2 _ I2 q2) fun vu s3 ⟨u, H3, I3, pu, q3⟩ => ?_)
  rw [evalPart_none]
  refine wpAny_pure ?_
  have I4 : Inv X pins σ H3 { s3 with heap := s3.heap.push { cls := .type "slice", data := .fields #[vl, vu, .none] } } := I3.kept (t' := s3.toks) fun b ob q => Heap.get?_push_of_some _ q
  obtain ⟨T, id, hT, ht, hg⟩ := hr pins { s3 with heap := s3.heap.push { cls := .type "slice", data := .fields #[vl, vu, .none] } } σ H3 x v vl vu l u s3.heap.objs.size Q I4 r1 (Heap.IsSliceOf.new ..) pl pu q3
  show wpAny (model X.prog X.w) X.A (subscriptTail e (.Slice lo hi none p2) v (.ref s3.heap.objs.size)) (EP X pins σ Q) X.xe { s3 with heap := s3.heap.push { cls := .type "slice", data := .fields #[vl, vu, .none] } }
  exact tail_any (ops := [.ref s3.heap.objs.size, v]) ht hT hg (by with_unfolding_all rfl)
def cutV (xs : List V) (lo hi : Option Int) : List V := (xs.drop (HT.sIx xs.length 0 lo)).take (HT.sIx xs.length xs.length hi - HT.sIx xs.length 0 lo)
theorem cutV_length (xs : List V) (lo hi : Option Int) : (cutV xs lo hi).length ≤ xs.length := by
  unfold cutV
  rw [List.length_take, List.length_drop]
  omega
def rSlT (K : PySem.W.Frag) : V → Option Int → Option Int → Hp → VK → Prop := fun x lo hi H Q => ∃ a xs, x = .ref a ∧ SqT K H a xs ∧
  ¬ (HT.sIx xs.length 0 lo = 0 ∧ HT.sIx xs.length xs.length hi = xs.length) ∧ ∀ p, H p = none → Q (.ref p) (upd H p (.tup (cutV xs lo hi)))
theorem sl_tup : SlR X (rSlT X.K) := by
  intro pins s σ H x v vl vu lo hi sl Q I rx hs pl pu h
  obtain ⟨a, xs, rfl, hx, hw, q⟩ := h
  cases rx
  obtain ⟨its, r, ht, hz⟩ := I.tuple hx
  have hlen : its.toArray.size = xs.length := by rw [List.size_toArray]; exact r.length.symm
  refine ⟨"tuple", _, PyProof.Rows.slot_tuple_getitem.lookup, ht.typeIs, ?_⟩
  refine HT.getItem_tuple_cut ht hs pl pu (by rw [hlen]; exact hw) ?_ (by rw [hlen]; exact hz)
  rw [hlen]
  refine ⟨.ref s.heap.objs.size, _, I.laid (t' := s.toks) (o := .tup (cutV xs lo hi)) (fun b ob q => Heap.get?_push_of_some _ q) (Nat.le_refl _) ?_, rfl, q _ (I.hok.fresh (Nat.le_refl _))⟩
  exact ⟨Nat.le_trans (cutV_length xs lo hi) hz, _, (r.drop (HT.sIx xs.length 0 lo)).take (HT.sIx xs.length xs.length hi - HT.sIx xs.length 0 lo), IsTup.new _ _⟩
def rCatT (K : PySem.W.Frag) : R2 := fun x y H Q => ∃ a b xs ys, x = .ref a ∧ y = .ref b ∧ SqT K H a xs ∧ SqT K H b ys ∧ xs ≠ [] ∧ xs.length + ys.length ≤ sizeLine ∧
  (ys = [] → Q (.ref a) H) ∧ (ys ≠ [] → ∀ p, H p = none → Q (.ref p) (upd H p (.tup (xs ++ ys))))
theorem Vals.nil_iff {xs : List V} {us : List Value} (r : Vals xs us) : us = [] ↔ xs = [] := by
  cases r with
  | nil => simp
  | cons _ _ => simp
theorem op_catT : OpR X (binaryOp .Add) (rCatT X.K) := by
  intro pins s σ H x y v u Q I rx ry h
  obtain ⟨a, b, xs, ys, rfl, rfl, ha, hb, hx, hz, q1, q2⟩ := h
  cases rx
  cases ry
  obtain ⟨its, r1, p1, _⟩ := I.tuple ha
  obtain ⟨its2, r2, p2, _⟩ := I.tuple hb
  refine HT.cat_tup p1 p2 (fun z => hx (r1.nil_iff.mp z)) (fun z => ⟨.ref a, H, I, rfl, q1 (r2.nil_iff.mp z)⟩) (fun z => ?_) (by rw [← r1.length, ← r2.length]; exact hz)
  refine ⟨.ref s.heap.objs.size, _, I.laid (t' := s.toks) (o := .tup (xs ++ ys)) (fun b ob q => Heap.get?_push_of_some _ q) (Nat.le_refl _) ?_, rfl, q2 (fun w => z (r2.nil_iff.mpr w)) _ (I.hok.fresh (Nat.le_refl _))⟩
  exact ⟨by rw [List.length_append]; exact hz, _, r1.append r2, IsTup.new _ _⟩
end
end L2
namespace L2
open PySem PySem.Spec PyProof.Rows
def ixN (n : Nat) (i : Int) : Option Nat := if 0 ≤ i then (if i < n then some i.toNat else none) else if -(n : Int) ≤ i then some (i + n).toNat else none
def atI {α : Type} (xs : List α) (i : Int) : Option α := (ixN xs.length i).bind fun j => xs[j]?
theorem ixN_seq {n : Nat} {i : Int} {j : Nat} (h : ixN n i = some j) : seqIndex? i n = some j ∧ j < n ∧ -(n : Int) ≤ i ∧ i < n := by
  unfold ixN at h
  by_cases h0 : 0 ≤ i
  · rw [if_pos h0] at h
    by_cases h1 : i < n
    · rw [if_pos h1] at h
      have e : i.toNat = j := Option.some.inj h
      exact ⟨by rw [seqIndex_of h0 h1, e], by omega, by omega, h1⟩
    · rw [if_neg h1] at h; cases h
  · rw [if_neg h0] at h
    by_cases h1 : -(n : Int) ≤ i
    · rw [if_pos h1] at h
      have e : (i + n).toNat = j := Option.some.inj h
      exact ⟨by rw [seqIndex_neg (by omega) h1, e], by omega, h1, by omega⟩
    · rw [if_neg h1] at h; cases h
theorem atI_get {α : Type} {xs : List α} {i : Int} {v : α} (h : atI xs i = some v) : ∃ j, seqIndex? i xs.length = some j ∧ xs[j]? = some v ∧ j < xs.length ∧ -(xs.length : Int) ≤ i ∧ i < xs.length := by
  unfold atI at h
  cases e : ixN xs.length i with
  | none => rw [e] at h; cases h
  | some j =>
    rw [e] at h
    obtain ⟨h1, h2, h3, h4⟩ := ixN_seq e
    exact ⟨j, h1, h, h2, h3, h4⟩
def PlainIx (b : Expr) : Prop := ∀ o i, subscripted b false o i = operate [o, i] (getItem o i)
def IxR (X : Cx) (r : R2) : Prop :=
  ∀ (value slice : Expr) (pins : List (Addr × Obj)) (s : Shared) (σ : St) (H : Hp) (x y : V) (v u : Value) (Q : VK), Inv X pins σ H s → RelV x v → RelV y u → r x y H Q →
    subscripted slice false v u = operate [v, u] (getItem v u) → wpAny (model X.prog X.w) X.A (subscriptTail value slice v u) (EP X pins σ Q) X.xe s
def MtR (X : Cx) (id : String) (r : V → List V → Hp → VK → Prop) : Prop :=
  ∀ (pins : List (Addr × Obj)) (s : Shared) (σ : St) (H : Hp) (x : V) (xs : List V) (v : Value) (us : List Value) (Q : VK), Inv X pins σ H s → RelV x v → Vals xs us → r x xs H Q →
    wpAny (model X.prog X.w) X.A (call (.builtin id) (v :: us)) (EP X pins σ Q) X.xe s
section
variable {X : Cx} {a b : Expr} {ta tb : TE} {pos : Pos}
theorem IxR.or {r r' : R2} (h : IxR X r) (h' : IxR X r') : IxR X (fun x y H Q => r x y H Q ∨ r' x y H Q) := by
  intro value slice pins s σ H x y v u Q I rx ry q hs
  rcases q with q | q
  · exact h value slice pins s σ H x y v u Q I rx ry q hs
  · exact h' value slice pins s σ H x y v u Q I rx ry q hs
theorem MtR.or {id : String} {r r' : V → List V → Hp → VK → Prop} (h : MtR X id r) (h' : MtR X id r') : MtR X id (fun x xs H Q => r x xs H Q ∨ r' x xs H Q) := by
  intro pins s σ H x xs v us Q I rx rs q
  rcases q with q | q
  · exact h pins s σ H x xs v us Q I rx rs q
  · exact h' pins s σ H x xs v us Q I rx rs q
theorem pe_ix {r : R2} (hr : IxR X r) (ha : PE X a ta) (hb : PE X b tb) (hs : PlainIx b) : PE X (.Subscript a b pos) (tOp r ta tb) := by
  intro pins s σ H Q I h
  exact Subscript_ (binT ha hb I h fun v u s2 x y H2 I2 rx ry q => hr a b pins s2 σ H2 x y v u Q I2 rx ry q (hs _ _))
def rIxL (K : PySem.W.Frag) : R2 := fun x y H Q => ∃ p xs i v, x = .ref p ∧ y = .int i ∧ SqL K H p xs ∧ atI xs i = some v ∧ Q v H
def rIxT (K : PySem.W.Frag) : R2 := fun x y H Q => ∃ p xs i v, x = .ref p ∧ y = .int i ∧ SqT K H p xs ∧ atI xs i = some v ∧ Q v H
def rIxS : R2 := fun x y H Q => ∃ z i c, x = .str z ∧ y = .int i ∧ z.length ≤ sizeLine ∧ atI z.cps.toList i = some c ∧ Q (.str ⟨#[c]⟩) H
theorem ix_list : IxR X (rIxL X.K) := by
  intro value slice pins s σ H x y v u Q I rx ry h hs
  obtain ⟨p, xs, i, z, rfl, rfl, hq, he, q⟩ := h
  cases rx
  obtain ⟨t, rfl⟩ := ry
  obtain ⟨its, r, pl, hz⟩ := I.list hq
  obtain ⟨j, h1, h2, h3, h4, h5⟩ := atI_get he
  obtain ⟨w, ew, rw'⟩ := r.get h2
  have hl := r.length
  have hn := line63
  have fin : EP X pins σ Q w s := ⟨z, H, I, rw', q⟩
  by_cases h0 : 0 ≤ i
  · have hj : i.toNat = j := by
      rw [seqIndex_of h0 h5] at h1
      exact Option.some.inj h1
    exact item_listR pl.isList h0 (by omega) (by rw [hj]; simpa using ew) fin hs
  · have hj : (i + (its.toArray.size : Int)).toNat = j := by
      rw [seqIndex_neg (by omega) h4] at h1
      rw [List.size_toArray, ← hl]
      exact Option.some.inj h1
    exact subscriptTail_builtinR (x := w) pl.isList.typeIs slot_list_getitem.lookup
      (wpAny_getItem_list_neg (Q := fun r s' => r = w ∧ EP X pins σ Q r s') pl.isList (by omega) (by rw [List.size_toArray] <;> omega) (by omega) (by rw [hj]; simpa using ew) ⟨rfl, fin⟩) hs
theorem ix_tup : IxR X (rIxT X.K) := by
  intro value slice pins s σ H x y v u Q I rx ry h hs
  obtain ⟨p, xs, i, z, rfl, rfl, hq, he, q⟩ := h
  cases rx
  obtain ⟨t, rfl⟩ := ry
  obtain ⟨its, r, pl, hz⟩ := I.tuple hq
  obtain ⟨j, h1, h2, h3, h4, h5⟩ := atI_get he
  obtain ⟨w, ew, rw'⟩ := r.get h2
  have hl := r.length
  have hn := line63
  have fin : EP X pins σ Q w s := ⟨z, H, I, rw', q⟩
  exact subscriptTail_builtinR (x := w) pl.typeIs slot_tuple_getitem.lookup
    (getItem_tuple (j := j) (Q := fun r s' => r = w ∧ EP X pins σ Q r s') pl (by omega) (by omega) (by rw [List.size_toArray, ← hl]; exact h1) (by simpa using ew) ⟨rfl, fin⟩) hs
theorem ix_str : IxR X rIxS := by
  intro value slice pins s σ H x y v u Q I rx ry h hs
  obtain ⟨z, i, c, rfl, rfl, hz, he, q⟩ := h
  obtain ⟨t, rfl⟩ := rx
  obtain ⟨t', rfl⟩ := ry
  obtain ⟨j, h1, h2, h3, h4, h5⟩ := atI_get he
  have hl : z.cps.toList.length = z.length := by simp [Str.length]
  rw [hl] at h1 h4 h5
  have hn := line63
  exact tail_any (typeIs_str s z t) slot_str_getitem.lookup (getItem_str (c := c) (by
    have e1 : decide (i < -(2 ^ 63 : Int)) = false := decide_eq_false (by omega)
    have e2 : decide (i ≥ 2 ^ 63) = false := decide_eq_false (by omega)
    rw [e1, e2, Bool.or_false]) (by rw [h1]; simpa using h2) ⟨.str ⟨#[c]⟩, H, I.tok _, ⟨_, rfl⟩, q⟩) hs
def rIx (K : PySem.W.Frag) : R2 := fun x y H Q => rIxL K x y H Q ∨ rIxT K x y H Q ∨ rIxS x y H Q
theorem ix_seq : IxR X (rIx X.K) := ix_list.or (ix_tup.or ix_str)
theorem mapSeq_set (its : List Value) (n j : Nat) (u : Value) : Obj.mapSeq (·.setIfInBounds j u) { cls := .type "list", data := .seq its.toArray n } = { cls := .type "list", data := .seq (its.set j u).toArray n } := by
  simp [Obj.mapSeq]
theorem Inv.lst {pins : List (Addr × Obj)} {σ : St} {H : Hp} {s : Shared} {p : Addr} {xs : List V} (I : Inv X pins σ H s) (h : H p = some (.lst xs)) :
    ∃ (its : List Value) (n : Nat), Vals xs its ∧ s.heap.get? p = some { cls := .type "list", data := .seq its.toArray n } ∧ xs.length ≤ sizeLine := by
  obtain ⟨z, its, n, r, e⟩ := I.hok p _ h
  exact ⟨its, n, r, e, z⟩
theorem Inv.lstUpd {pins : List (Addr × Obj)} {σ : St} {H : Hp} {s : Shared} {p : Addr} {xs ys : List V} {its its' : List Value} {n n' : Nat} {f : Obj → Obj} (I : Inv X pins σ H s) (h : H p = some (.lst xs))
    (ho : s.heap.get? p = some { cls := .type "list", data := .seq its.toArray n }) (hf : f { cls := .type "list", data := .seq its.toArray n } = { cls := .type "list", data := .seq its'.toArray n' }) (r : Vals ys its') (hz : ys.length ≤ sizeLine) (t : Nat) :
    Inv X pins σ (upd H p (.lst ys)) { s with heap := s.heap.update p f, toks := t } := by
  have e : (s.heap.update p f).get? p = some { cls := .type "list", data := .seq its'.toArray n' } := by
    rw [Heap.get?_update_self f ho (by rw [hf] <;> rfl), hf]
  refine I.write (x := p) (e := p) (by rw [h]; trivial) (.inl rfl) (fun b u hb q => (Heap.get?_update_other _ _ (Ne.symm hb)).trans q) ⟨_, e⟩ ?_
  exact ⟨hz, its', n', r, e⟩
def rSetL : V → V → V → Hp → (Hp → Prop) → Prop := fun o i v H Q => ∃ p xs k j, o = .ref p ∧ i = .int k ∧ H p = some (.lst xs) ∧ ixN xs.length k = some j ∧ Q (upd H p (.lst (xs.set j v)))
theorem set_list : PSet X rSetL := by
  intro pins s σ H o i v ov iv u Q I ro ri rv h
  obtain ⟨p, xs, k, j, rfl, rfl, hp, hj, q⟩ := h
  cases ro
  obtain ⟨t, rfl⟩ := ri
  obtain ⟨its, n, r, ho, hz⟩ := I.lst hp
  obtain ⟨h1, h2, h3, h4⟩ := ixN_seq hj
  have hl := r.length
  have hn := line63
  have I' : Inv X pins σ (upd H p (.lst (xs.set j v))) { s with heap := s.heap.update p (Obj.mapSeq (·.setIfInBounds j u)) } :=
    I.lstUpd hp ho (mapSeq_set its n j u) (r.set rv j) (by rw [List.length_set]; exact hz) s.toks
  by_cases h0 : 0 ≤ k
  · have hk : k.toNat = j := by
      rw [seqIndex_of h0 h4] at h1
      exact Option.some.inj h1
    exact PySem.W.ki_setAt ho h0 (by omega) (by rw [List.size_toArray, ← hl]; exact h4) (by rw [hk]; exact ⟨_, I', q⟩)
  · have hk : (k + (its.toArray.size : Int)).toNat = j := by
      rw [seqIndex_neg (by omega) h3] at h1
      rw [List.size_toArray, ← hl]
      exact Option.some.inj h1
    exact PySem.W.ki_setBack ho (by omega) (by rw [List.size_toArray, ← hl]; exact h3) (by omega) (by rw [hk]; exact ⟨_, I', q⟩)
theorem slice_bounds (lo hi : Option Int) (n : Nat) : (sliceBounds lo hi none n).1 = ((HT.sIx n 0 lo : Nat) : Int) ∧ (sliceBounds lo hi none n).2.1 = ((HT.sIx n n hi : Nat) : Int) ∧ (sliceBounds lo hi none n).2.2 = 1 := by
  refine ⟨?_, ?_, rfl⟩
  · cases lo with
    | none => simp [sliceBounds, HT.sIx]
    | some i =>
      simp only [sliceBounds, HT.sIx, Option.getD_none, show (1 : Int) > 0 by decide, if_true]
      by_cases h : i < 0
      · simp only [h, if_true] <;> omega
      · simp only [h, if_false] <;> omega
  · cases hi with
    | none => simp [sliceBounds, HT.sIx]
    | some i =>
      simp only [sliceBounds, HT.sIx, Option.getD_none, show (1 : Int) > 0 by decide, if_true]
      by_cases h : i < 0
      · simp only [h, if_true] <;> omega
      · simp only [h, if_false] <;> omega
theorem slicePick_cut (its : List Value) (lo hi : Option Int) : slicePick its.toArray lo hi none = ((its.drop (HT.sIx its.length 0 lo)).take (HT.sIx its.length its.length hi - HT.sIx its.length 0 lo)).toArray := by
  obtain ⟨h1, h2, h3⟩ := slice_bounds lo hi its.toArray.size
  unfold slicePick
  rw [h1, h2, h3]
  simp only [sliceRange_one, pick_run, List.size_toArray] <;> rfl
def rSlL (K : PySem.W.Frag) : V → Option Int → Option Int → Hp → VK → Prop := fun x lo hi H Q => ∃ a xs, x = .ref a ∧ SqL K H a xs ∧ ∀ p, H p = none → Q (.ref p) (upd H p (.lst (cutV xs lo hi)))
theorem sl_list : SlR X (rSlL X.K) := by
  intro pins s σ H x v vl vu lo hi sl Q I rx hs pl pu h
  obtain ⟨a, xs, rfl, hx, q⟩ := h
  cases rx
  obtain ⟨its, r, ht, hz⟩ := I.list hx
  have hlen := r.length
  refine ⟨"list", _, slot_list_getitem.lookup, ht.isList.typeIs, ?_⟩
  refine wpAny_getItem_list_slice ht.isList hs pl pu .none (by simp) ?_ (by rw [List.size_toArray] <;> omega)
  rw [slicePick_cut, ← hlen]
  refine ⟨.ref s.heap.objs.size, _, I.laid (t' := s.toks) (o := .lst (cutV xs lo hi)) (fun b ob q => Heap.get?_push_of_some _ q) (Nat.le_refl _) ?_, rfl, q _ (I.hok.fresh (Nat.le_refl _))⟩
  exact ⟨Nat.le_trans (cutV_length xs lo hi) hz, _, 0, (r.drop (HT.sIx xs.length 0 lo)).take (HT.sIx xs.length xs.length hi - HT.sIx xs.length 0 lo), Heap.get?_push_size _ rfl⟩
def flatV : V → Bool
  | .non => true
  | .bl _ => true
  | .int _ => true
  | .str _ => true
  | _ => false
def eqV : V → V → Bool
  | .non, .non => true
  | .bl a, .bl b => a == b
  | .bl a, .int b => (if a then 1 else 0) == b
  | .int a, .bl b => a == (if b then 1 else 0)
  | .int a, .int b => a == b
  | .str a, .str b => a == b
  | _, _ => false
theorem eqAt_V {A : Around} {s : Shared} {y x : V} {u v : Value} (ry : RelV y u) (rx : RelV x v) (fy : flatV y = true) (fx : flatV x = true) : SeqAt.EqAt A s u v (eqV y x) := by
  cases y with
  | non =>
    cases ry
    cases x with
    | non => cases rx; exact SeqAt.EqAt.same _
    | bl b => cases rx; exact SeqAt.EqAt.none_bool b
    | int b => obtain ⟨t, rfl⟩ := rx; exact SeqAt.EqAt.none_int b t
    | str b => obtain ⟨t, rfl⟩ := rx; exact SeqAt.EqAt.none_str b t
    | _ => exact absurd (show false = true from fx) Bool.false_ne_true
  | bl a =>
    cases ry
    cases x with
    | non => cases rx; exact SeqAt.EqAt.bool_none a
    | bl b => cases rx; exact SeqAt.EqAt.bool_bool a b
    | int b => obtain ⟨t, rfl⟩ := rx; exact SeqAt.EqAt.bool_int a b t
    | str b => obtain ⟨t, rfl⟩ := rx; exact SeqAt.EqAt.bool_str a b t
    | _ => exact absurd (show false = true from fx) Bool.false_ne_true
  | int a =>
    obtain ⟨t', rfl⟩ := ry
    cases x with
    | non => cases rx; exact SeqAt.EqAt.int_none a t'
    | bl b => cases rx; exact SeqAt.EqAt.int_bool a t' b
    | int b => obtain ⟨t, rfl⟩ := rx; exact SeqAt.EqAt.int_int a t' b t
    | str b => obtain ⟨t, rfl⟩ := rx; exact SeqAt.EqAt.int_str a t' b t
    | _ => exact absurd (show false = true from fx) Bool.false_ne_true
  | str a =>
    obtain ⟨t', rfl⟩ := ry
    cases x with
    | non => cases rx; exact SeqAt.EqAt.str_none a t'
    | bl b => cases rx; exact SeqAt.EqAt.str_bool a t' b
    | int b => obtain ⟨t, rfl⟩ := rx; exact SeqAt.EqAt.str_int a t' b t
    | str b => obtain ⟨t, rfl⟩ := rx; exact SeqAt.EqAt.str_str a t' b t
    | _ => exact absurd (show false = true from fx) Bool.false_ne_true
  | _ => exact absurd (show false = true from fy) Bool.false_ne_true
def eqU (x : V) (u : Value) : Bool := match u with
  | .none => eqV .non x
  | .bool b => eqV (.bl b) x
  | .int i _ => eqV (.int i) x
  | .str z _ => eqV (.str z) x
  | _ => false
theorem eqU_of {x y : V} {u : Value} (r : RelV y u) (f : flatV y = true) : eqU x u = eqV y x := by
  cases y with
  | non => cases r; rfl
  | bl b => cases r; rfl
  | int i => obtain ⟨t, rfl⟩ := r; rfl
  | str z => obtain ⟨t, rfl⟩ := r; rfl
  | _ => exact absurd (show false = true from f) Bool.false_ne_true
theorem any_eqU {x : V} : ∀ {xs : List V} {us : List Value}, Vals xs us → xs.all flatV = true → us.any (eqU x) = xs.any fun y => eqV y x
  | _, _, .nil, _ => rfl
  | y :: xs, u :: us, .cons r t, f => by
    rw [List.all_cons, Bool.and_eq_true] at f
    rw [List.any_cons, List.any_cons, eqU_of r f.1, any_eqU t f.2]
theorem mem_eqAt {A : Around} {s : Shared} {x : V} {v : Value} (rx : RelV x v) (fx : flatV x = true) : ∀ {xs : List V} {us : List Value}, Vals xs us → xs.all flatV = true → ∀ u ∈ us, SeqAt.EqAt A s u v (eqU x u)
  | _, _, .nil, _ => fun u hu => by cases hu
  | y :: xs, u :: us, .cons r t, f => fun u' hu => by
    rw [List.all_cons, Bool.and_eq_true] at f
    rcases List.mem_cons.mp hu with rfl | hu
    · rw [eqU_of r f.1]; exact eqAt_V r rx f.1 fx
    · exact mem_eqAt rx fx t f.2 u' hu
def inV (x : V) (xs : List V) : Bool := xs.any fun y => eqV y x
def rIn (K : PySem.W.Frag) (neg : Bool) : R2 := fun x y H Q => ∃ p xs, y = .ref p ∧ (SqL K H p xs ∨ SqT K H p xs) ∧ flatV x = true ∧ xs.all flatV = true ∧ Q (.bl (if neg then !inV x xs else inV x xs)) H
theorem op_in_seq : OpR X (compareOp .In) (rIn X.K false) := by
  intro pins s σ H x y v u Q I rx ry h
  obtain ⟨p, xs, rfl, hq, fx, fs, q⟩ := h
  cases ry
  rcases hq with hq | hq
  · obtain ⟨its, r, pl, hz⟩ := I.list hq
    refine SeqAt.in_listAt (eqU x) pl.isList (fun w hw => mem_eqAt rx fx r fs w (by simpa using hw)) ⟨.bl _, H, I, rfl, ?_⟩
    rw [show its.toArray.any (eqU x) = its.any (eqU x) by simp, any_eqU r fs]
    exact q
  · obtain ⟨its, r, pl, hz⟩ := I.tuple hq
    refine SeqAt.in_tupleAt (eqU x) pl (fun w hw => mem_eqAt rx fx r fs w (by simpa using hw)) ⟨.bl _, H, I, rfl, ?_⟩
    rw [show its.toArray.any (eqU x) = its.any (eqU x) by simp, any_eqU r fs]
    exact q
theorem op_notIn_seq : OpR X (compareOp .NotIn) (rIn X.K true) := by
  intro pins s σ H x y v u Q I rx ry h
  obtain ⟨p, xs, rfl, hq, fx, fs, q⟩ := h
  cases ry
  rcases hq with hq | hq
  · obtain ⟨its, r, pl, hz⟩ := I.list hq
    refine SeqAt.notIn_listAt (eqU x) pl.isList (fun w hw => mem_eqAt rx fx r fs w (by simpa using hw)) ⟨.bl _, H, I, rfl, ?_⟩
    rw [show its.toArray.any (eqU x) = its.any (eqU x) by simp, any_eqU r fs]
    exact q
  · obtain ⟨its, r, pl, hz⟩ := I.tuple hq
    refine SeqAt.notIn_tupleAt (eqU x) pl (fun w hw => mem_eqAt rx fx r fs w (by simpa using hw)) ⟨.bl _, H, I, rfl, ?_⟩
    rw [show its.toArray.any (eqU x) = its.any (eqU x) by simp, any_eqU r fs]
    exact q
theorem op_notIn_str : OpR X (compareOp .NotIn) (fun x y H Q => ∃ i j, x = .str i ∧ y = .str j ∧ Q (.bl (!(!(Builtin.Str.occurrences j i 0 j.length 1).isEmpty))) H) := by
  intro pins s σ H x y v u Q I rx ry h
  obtain ⟨i, j, rfl, rfl, q⟩ := h
  obtain ⟨t, rfl⟩ := rx
  obtain ⟨t', rfl⟩ := ry
  exact notIn_str ⟨.bl _, H, I, rfl, q⟩
theorem CallR.or {f : Value} {r r' : List V → Hp → VK → Prop} (h : CallR X f r) (h' : CallR X f r') : CallR X f (fun xs H Q => r xs H Q ∨ r' xs H Q) := by
  intro pins s σ H xs us Q I rs q
  rcases q with q | q
  · exact h pins s σ H xs us Q I rs q
  · exact h' pins s σ H xs us Q I rs q
theorem call_tuple_of : CallR X (.type "tuple") (fun xs H Q => ∃ p ys, xs = [.ref p] ∧ ((SqL X.K H p ys ∧ ∀ l, H l = none → Q (.ref l) (upd H l (.tup ys))) ∨ (SqT X.K H p ys ∧ Q (.ref p) H))) := by
  intro pins s σ H xs us Q I r h
  obtain ⟨p, ys, rfl, h⟩ := h
  obtain ⟨u, rfl, rx⟩ := vals1 r
  cases rx
  rcases h with ⟨hq, q⟩ | ⟨hq, q⟩
  · obtain ⟨its, r', pl, hz⟩ := I.list hq
    have hlen := r'.length
    refine call_tuple_list pl.isList (fun h' kp => ?_) (by simp only [List.size_toArray] <;> omega)
    have I1 : Inv X pins σ H { s with heap := h' } := I.kept (t' := s.toks) kp
    have I2 : Inv X pins σ (upd H h'.objs.size (.tup ys)) { s with heap := h'.push { cls := .type "tuple", data := .seq its.toArray } } :=
      I1.laid (t' := s.toks) (fun b o e => Heap.get?_push_of_some _ e) (Nat.le_refl _) (show ObjOk X.prog X.w _ _ _ (.tup ys) from ⟨hz, its, r', IsTup.new _ _⟩)
    exact ⟨.ref h'.objs.size, _, I2, rfl, q _ (I1.hok.fresh (Nat.le_refl _))⟩
  · obtain ⟨its, r', pl, hz⟩ := I.tuple hq
    exact call_tuple_same pl ⟨.ref p, H, I, rfl, q⟩
def tyV (K : PySem.W.Frag) (T : String) (x : V) (H : Hp) : Prop := match x with
  | .str _ => T = "str"
  | .int _ => T = "int"
  | .ref p => (T = "list" ∧ ∃ xs, SqL K H p xs) ∨ (T = "tuple" ∧ ∃ o, K.lookup p = some o ∧ o.cls = .type "tuple" ∧ o.dict = none) ∨
      (T = "dict" ∧ ((∃ kvs, H p = some (.dK kvs)) ∨ ∃ kvs, H p = some (.dT kvs))) ∨ (T = "set" ∧ ∃ S n, H p = some (.set S n))
  | _ => False
theorem tyV_is {pins : List (Addr × Obj)} {σ : St} {H : Hp} {s : Shared} {T : String} {x : V} {v : Value} (I : Inv X pins σ H s) (r : RelV x v) (ty : tyV X.K T x H) :
    s.TypeIs v T ∧ ∀ a, v = .ref a → ∃ ob, s.heap.get? a = some ob ∧ ob.dict = none := by
  cases x with
  | str z =>
    obtain ⟨t, rfl⟩ := r
    cases (show T = "str" from ty)
    exact ⟨typeIs_str s z t, fun _ e => nomatch e⟩
  | int i =>
    obtain ⟨t, rfl⟩ := r
    cases (show T = "int" from ty)
    exact ⟨typeIs_int s i t, fun _ e => nomatch e⟩
  | ref p =>
    cases r
    rcases ty with ⟨rfl, xs, hq⟩ | ⟨rfl, o, hk, hc, hd⟩ | ⟨rfl, hk⟩ | ⟨rfl, S, n, hk⟩
    · obtain ⟨its, _, pl, _⟩ := I.list hq
      refine ⟨pl.isList.typeIs, fun a e => ?_⟩
      cases e
      obtain ⟨o, n, e, c, hd, _⟩ := pl
      exact ⟨o, e, hd⟩
    · refine ⟨⟨o, I.kIn p o hk, hc⟩, fun a e => ?_⟩
      cases e
      exact ⟨o, I.kIn _ o hk, hd⟩
    · have z : ∃ o, s.heap.get? p = some o ∧ o.ExactDict := by
        rcases hk with ⟨kvs, hk⟩ | ⟨kvs, hk⟩
        · obtain ⟨_, _, _, _, o, _, _, e, ex, _⟩ := I.hok p _ hk
          exact ⟨o, e, ex⟩
        · obtain ⟨_, _, _, _, o, _, _, e, ex, _⟩ := I.hok p _ hk
          exact ⟨o, e, ex⟩
      obtain ⟨o, e, ex⟩ := z
      refine ⟨⟨o, e, ex.1⟩, fun a e2 => ?_⟩
      cases e2
      exact ⟨o, e, ex.2.1⟩
    · obtain ⟨o, _, _, _, e, ex, _⟩ := I.hok p _ hk
      refine ⟨⟨o, e, ex.1⟩, fun a e2 => ?_⟩
      cases e2
      exact ⟨o, e, ex.2.1⟩
  | _ => exact False.elim ty
def tBM (K : PySem.W.Frag) (T : String) (r : V → List V → Hp → VK → Prop) (to : TE) (t : TA) : TE := fun σ H Q => to σ H fun x H1 => tyV K T x H1 ∧ t σ H1 fun xs H2 => r x xs H2 Q
variable {o e : Expr} {es : List Expr} {to : TE} {t : TA} {name : Str} {apos cpos : Pos} {T id : String} {r : V → List V → Hp → VK → Prop}
theorem pe_bm (pa : PlainAttrs T) (slot : Slot T name id) (hty : typeOf (.builtin id) = pure (.type "method_descriptor")) (hm : MtR X id r) (ho : PE X o to) (ha : PA X (e :: es) t)
    (hbase : attributeBase o name X.env (eval o X.env) = eval o X.env := by rfl)
    (hfew : ((backTo cpos (starEach (e :: es) X.env)).all (fun x => !x.1) && (backToKw cpos (keywordEach [] X.env)).all (fun x => x.1.isSome)
      && decide ((e :: es).length + ([] : List Keyword).length + (if ([] : List Keyword).isEmpty then 0 else 1) < 30)) = true := by rfl)
    (hline : (apos.endLine == cpos.line) = true := by rfl) (hs : starEach (e :: es) X.env = (false, eval e X.env) :: starEach es X.env := by rfl) (hplain : (backTo cpos (starEach es X.env)).any (·.1) = false := by rfl) :
    PE X (.Call (.Attribute o name apos) (e :: es) [] cpos) (tBM X.K T r to t) := by
  intro pins s σ H Q I h
  refine wpAny_Call_method_late hbase hfew hline rfl (thn (ho pins s σ H _ I h) fun v s1 ⟨x, H1, I1, r1, ty, q1⟩ => ?_)
  obtain ⟨h1, h2⟩ := tyV_is I1 r1 ty
  refine ⟨T, id, pa, slot, hty, h1, h2, ?_⟩
  have hA := ha cpos pins s1 σ H1 _ I1 q1
  rw [hs] at hA ⊢
  refine Calls.callWith_builtin (by show (false || (backTo cpos (starEach es X.env)).any (·.1)) = false; rw [hplain] <;> rfl) (Calls.evalArgs_plain ?_)
  exact thn hA fun us s2 ⟨vs, H2, I2, r2, q2⟩ => hm pins s2 σ H2 x vs v us Q I2 r1 r2 q2
end
end L2
namespace L2
open PySem PySem.Spec PyProof.Rows
def MtM (X : Cx) (id : String) (r : V → List V → Hp → VK → Prop) : Prop :=
  ∀ (pins : List (Addr × Obj)) (s : Shared) (σ : St) (H : Hp) (x : V) (xs : List V) (v : Value) (us : List Value) (Q : VK), Inv X pins σ H s → RelV x v → Vals xs us → r x xs H Q →
    wpAny (model X.prog X.w) X.A (call (.builtin id) (v :: us)) (EP X pins σ Q) X.xe s
theorem Vals.one : ∀ {x : V} {us : List Value}, Vals [x] us → ∃ u, us = [u] ∧ RelV x u
  | _, _, .cons r .nil => ⟨_, rfl, r⟩
theorem Vals.two : ∀ {x y : V} {us : List Value}, Vals [x, y] us → ∃ u v, us = [u, v] ∧ RelV x u ∧ RelV y v
  | _, _, _, .cons r (.cons q .nil) => ⟨_, _, rfl, r, q⟩
theorem Vals.zero : ∀ {us : List Value}, Vals [] us → us = []
  | _, .nil => rfl
theorem Vals.dropLast {xs : List V} {us : List Value} (h : Vals xs us) : Vals xs.dropLast us.dropLast := by
  induction h with
  | nil => exact .nil
  | cons r t ih =>
    cases t with
    | nil => exact .nil
    | cons q t' => exact .cons r ih
theorem Vals.eraseIdx : ∀ {xs : List V} {us : List Value} (i : Nat), Vals xs us → Vals (xs.eraseIdx i) (us.eraseIdx i)
  | _, _, _, .nil => .nil
  | _, _, 0, .cons _ t => t
  | _, _, i + 1, .cons r t => .cons r (Vals.eraseIdx i t)
theorem Vals.reverse {xs : List V} {us : List Value} (h : Vals xs us) : Vals xs.reverse us.reverse := by
  induction h with
  | nil => exact .nil
  | cons r t ih => rw [List.reverse_cons, List.reverse_cons]; exact Vals.append ih (.cons r .nil)
theorem Vals.rep {xs : List V} {us : List Value} (h : Vals xs us) : ∀ k : Nat, Vals (List.replicate k xs).flatten (List.replicate k us).flatten
  | 0 => .nil
  | k + 1 => by
    rw [List.replicate_succ, List.replicate_succ, List.flatten_cons, List.flatten_cons]
    exact Vals.append h (Vals.rep h k)
theorem len_erase {α : Type} : ∀ (l : List α) (i : Nat), (l.eraseIdx i).length ≤ l.length
  | [], _ => Nat.le_refl _
  | _ :: _, 0 => Nat.le_succ _
  | _ :: r, i + 1 => Nat.succ_le_succ (len_erase r i)
theorem foldl_rep (its : List Value) : ∀ (k : Nat) (acc : List Value),
    List.foldl (fun x1 x2 => x1 ++ x2) acc.toArray (List.replicate k its.toArray) = (acc ++ (List.replicate k its).flatten).toArray
  | 0, acc => by simp
  | k + 1, acc => by
    have e : acc.toArray ++ its.toArray = (acc ++ its).toArray := by simp
    have e2 : (acc ++ its) ++ (List.replicate k its).flatten = acc ++ (List.replicate (k + 1) its).flatten := by
      rw [List.replicate_succ, List.flatten_cons, List.append_assoc]
    rw [← e2, ← foldl_rep its k (acc ++ its), ← e, List.replicate_succ, List.foldl_cons]
section
variable {X : Cx} {pins : List (Addr × Obj)} {σ : St} {H : Hp} {s : Shared} {l b : Addr} {xs ys zs : List V}
theorem Inv.lset {its its' : List Value} {n : Nat} {f : Array Value → Array Value} {t' : Nat} (I : Inv X pins σ H s) (hH : H l = some (.lst xs))
    (e : s.heap.get? l = some { cls := .type "list", data := .seq its.toArray n }) (hf : f its.toArray = its'.toArray) (hv : Vals ys its') (hz : ys.length ≤ sizeLine) :
    Inv X pins σ (upd H l (.lst ys)) { s with heap := s.heap.update l (Obj.mapSeq f), toks := t' } := by
  have q := PySem.IsL.update e f
  rw [hf] at q
  refine I.write (x := l) (e := l) (by rw [hH]; exact trivial) (.inl rfl) (fun b' u hb hu => (Heap.get?_update_other s.heap (Obj.mapSeq f) (Ne.symm hb)).trans hu) ⟨_, q⟩ ?_
  exact ⟨hz, its', _, hv, q⟩
theorem Inv.lnew {its : List Value} {t' : Nat} (I : Inv X pins σ H s) (hv : Vals ys its) (hz : ys.length ≤ sizeLine) :
    Inv X pins σ (upd H s.heap.objs.size (.lst ys)) { s with heap := s.heap.push { cls := .type "list", data := .seq its.toArray }, toks := t' } :=
  I.laid (fun _ _ q => Heap.get?_push_of_some _ q) (Nat.le_refl _) ⟨hz, its, 0, hv, Heap.get?_push_size _ rfl⟩
theorem Inv.fresh (I : Inv X pins σ H s) : H s.heap.objs.size = none := I.hok.fresh (Nat.le_refl _)
theorem Inv.lstM (I : Inv X pins σ H s) (hH : H l = some (.lst xs)) : xs.length ≤ sizeLine ∧ ∃ (its : List Value) (n : Nat), Vals xs its ∧ xs.length = its.length ∧ s.heap.get? l = some { cls := .type "list", data := .seq its.toArray n } := by
  obtain ⟨z, its, n, r, e⟩ := I.hok l _ hH
  exact ⟨z, its, n, r, r.length, e⟩
theorem notLongL {n : Nat} (h : n ≤ sizeLine) : Builtin.List.listTooLong n = false := by
  unfold Builtin.List.listTooLong
  exact decide_eq_false (by omega)
end
section
variable {X : Cx}
def rAppend : V → List V → Hp → VK → Prop := fun x vs H Q => ∃ l xs y, x = .ref l ∧ vs = [y] ∧ H l = some (.lst xs) ∧ xs.length < sizeLine ∧ Q .non (upd H l (.lst (xs ++ [y])))
theorem mt_append : MtM X "list.append" rAppend := by
  intro pins s σ H x vs v us Q I rx rv h
  obtain ⟨l, xs, y, rfl, rfl, hH, hz, q⟩ := h
  cases rx
  obtain ⟨u, rfl, ru⟩ := rv.one
  obtain ⟨z, its, n, r, hl, e⟩ := I.lstM hH
  refine call_meets F.slot_list_append ⟨_, e, rfl⟩ F.entry_list_append (F.args_list_append_2 _ _) (PySem.list_append l its.toArray n u (by rw [List.size_toArray]; omega)) ⟨e, ?_⟩
  refine ⟨.non, _, I.lset (its' := its ++ [u]) hH e (by simp) (r.append (.cons ru .nil)) ?_, rfl, q⟩
  rw [List.length_append, List.length_singleton]
  omega
def rExtend : V → List V → Hp → VK → Prop := fun x vs H Q => ∃ l b xs zs, x = .ref l ∧ vs = [.ref b] ∧ H l = some (.lst xs) ∧ H b = some (.lst zs) ∧ xs.length + zs.length ≤ sizeLine ∧ Q .non (upd H l (.lst (xs ++ zs)))
theorem mt_extend : MtM X "list.extend" rExtend := by
  intro pins s σ H x vs v us Q I rx rv h
  obtain ⟨l, b, xs, zs, rfl, rfl, hH, hB, hz, q⟩ := h
  cases rx
  obtain ⟨u, rfl, ru⟩ := rv.one
  cases ru
  obtain ⟨z, its, n, r, hl, e⟩ := I.lstM hH
  obtain ⟨z2, its2, n2, r2, hl2, e2⟩ := I.lstM hB
  have hsz : its.toArray.size + its2.toArray.size ≤ sizeLine := by rw [List.size_toArray, List.size_toArray]; omega
  have hlong : ¬ (!its.toArray.isEmpty && Builtin.List.listTooLong (its.toArray.size + its2.toArray.size)) = true := by
    rw [notLongL hsz, Bool.and_false]
    exact Bool.false_ne_true
  refine call_meets F.slot_list_extend ⟨_, e, rfl⟩ F.entry_list_extend (F.args_list_extend_2 _ _)
    (AutoSeq1.list_extend_list_list_0 l its.toArray n b its2.toArray n2 hlong (by rw [List.size_toArray]; omega) (by omega)) ⟨e, e2, ?_⟩
  refine ⟨.non, _, I.lset (its' := its ++ its2) hH e (by simp) (r.append r2) ?_, rfl, q⟩
  rw [List.length_append]
  omega
def rPopAt : V → List V → Hp → VK → Prop := fun x vs H Q => ∃ l xs i k y, x = .ref l ∧ vs = [.int i] ∧ H l = some (.lst xs) ∧ -(2 ^ 63) ≤ i ∧ i < 2 ^ 63 ∧ seqIndex? i xs.length = some k ∧ xs[k]? = some y ∧ Q y (upd H l (.lst (xs.eraseIdx k)))
theorem mt_popAt : MtM X "list.pop" rPopAt := by
  intro pins s σ H x vs v us Q I rx rv h
  obtain ⟨l, xs, i, k, y, rfl, rfl, hH, h1, h2, hk, hy, q⟩ := h
  cases rx
  obtain ⟨u, rfl, ru⟩ := rv.one
  obtain ⟨t, rfl⟩ := ru
  obtain ⟨z, its, n, r, hl, e⟩ := I.lstM hH
  obtain ⟨w, hw, rw'⟩ := r.get hy
  refine call_meets F.slot_list_pop ⟨_, e, rfl⟩ F.entry_list_pop (F.args_list_pop_2 _ _)
    (MeetsSeq.list_pop_at l its.toArray n i t k w (fitsIndex_both h1 h2) (by rw [List.size_toArray, ← hl]; exact hk) (by rw [← Array.getElem?_toList]; exact hw) (by rw [List.size_toArray]; omega)) ⟨e, ?_⟩
  refine ⟨y, _, I.lset (its' := its.eraseIdx k) hH e ?_ (r.eraseIdx k) ?_, rw', q⟩
  · show its.toArray.eraseIdxIfInBounds k = (its.eraseIdx k).toArray
    rw [List.eraseIdxIfInBounds_toArray]
  · have := len_erase xs k
    omega
def rCat : R2 := fun x y H Q => ∃ l b xs zs, x = .ref l ∧ y = .ref b ∧ H l = some (.lst xs) ∧ H b = some (.lst zs) ∧ xs.length + zs.length ≤ sizeLine ∧ ∀ p, H p = none → Q (.ref p) (upd H p (.lst (xs ++ zs)))
theorem op_cat : OpR X (binaryOp .Add) rCat := by
  intro pins s σ H x y v u Q I rx ry h
  obtain ⟨l, b, xs, zs, rfl, rfl, hH, hB, hz, q⟩ := h
  cases rx
  cases ry
  obtain ⟨z, its, n, r, hl, e⟩ := I.lstM hH
  obtain ⟨z2, its2, n2, r2, hl2, e2⟩ := I.lstM hB
  refine PySem.P.add_list e e2 ?_ (by rw [List.size_toArray, List.size_toArray]; omega)
  have ea : its.toArray ++ its2.toArray = (its ++ its2).toArray := by simp
  rw [ea]
  exact ⟨.ref _, _, I.lnew (t' := s.toks) (r.append r2) (by rw [List.length_append]; omega), rfl, q _ I.fresh⟩
def rRep : R2 := fun x y H Q => ∃ l k xs, x = .ref l ∧ y = .int k ∧ H l = some (.lst xs) ∧ -(2 ^ 63) ≤ k ∧ k < 2 ^ 63 ∧ xs.length * k.toNat ≤ sizeLine ∧
  ∀ p, H p = none → Q (.ref p) (upd H p (.lst (List.replicate k.toNat xs).flatten))
theorem len_rep {α : Type} (xs : List α) (k : Nat) : (List.replicate k xs).flatten.length = k * xs.length := by
  induction k with
  | zero => simp
  | succ k ih => rw [List.replicate_succ, List.flatten_cons, List.length_append, ih, Nat.succ_mul, Nat.add_comm]
theorem op_rep : OpR X (binaryOp .Mult) rRep := by
  intro pins s σ H x y v u Q I rx ry h
  obtain ⟨l, k, xs, rfl, rfl, hH, h1, h2, hz, q⟩ := h
  cases rx
  obtain ⟨t, rfl⟩ := ry
  obtain ⟨z, its, n, r, hl, e⟩ := I.lstM hH
  have hlen : its.toArray.size * k.toNat ≤ sizeLine := by rw [List.size_toArray, ← hl]; exact hz
  have hcap : ¬ its.toArray.size * k.toNat > (2 ^ 63 - 1) / 8 := by
    have : (sizeLine : Nat) ≤ (2 ^ 63 - 1) / 8 := by decide
    omega
  have hfit : ¬ (!Builtin.List.listFitsIndex k) = true := by
    rw [fitsIndex_both h1 h2]
    exact Bool.false_ne_true
  have hlong : ¬ Builtin.List.listTooLong (its.toArray.size * k.toNat) = true := by
    rw [notLongL hlen]
    exact Bool.false_ne_true
  have hnew : List.foldl (fun x1 x2 => x1 ++ x2) #[] (List.replicate (if its.toArray.isEmpty = true then 0 else k.toNat) its.toArray) = (List.replicate k.toNat its).flatten.toArray := by
    have f0 : ∀ m : Nat, List.foldl (fun x1 x2 => x1 ++ x2) #[] (List.replicate m its.toArray) = (List.replicate m its).flatten.toArray := fun m => by
      have := foldl_rep its m []
      rw [List.nil_append] at this
      exact this
    rw [f0]
    cases its with
    | nil => simp
    | cons a r' => rw [if_neg (by simp)]
  refine wpAny_binaryOp_repeat_ref (T := "list") (U := "int") (by decide) ⟨_, e, rfl⟩ (fun s' => typeIs_int s' k t) noFill_list_mul F.fills_int_mul F.slot_int_rmul repeat_list F.slot_int_index.lookup
    (call_meets F.slot_int_rmul (typeIs_int s k t) F.entry_int_rmul (F.args_int_rmul_2 _ _) (int___rmul___int_list k t l its.toArray n)
      ⟨e, rfl, ⟨_, e, rfl⟩, call_meets F.slot_list_mul ⟨_, e, rfl⟩ F.entry_list_mul (F.args_list_mul_2 _ _) (AutoListH.list___mul___list_int_3 l its.toArray n k t hfit hcap hlong) ⟨e, ?_⟩⟩)
  rw [hnew]
  exact ⟨.ref _, _, I.lnew (t' := s.toks) (r.rep k.toNat) (by rw [len_rep, Nat.mul_comm]; exact hz), rfl, q _ I.fresh⟩
end
section
variable {prog : Program} {w : World} {A : Around} {E : Value → Shared → Prop} {s : Shared}
end
section
variable {X : Cx}
end
end L2
namespace L2
open PySem PySem.Spec PyProof.Rows
section
variable {κ : Type} [DecidableEq κ]
def valV (kvs : List (κ × V)) (k : κ) : Option V := (kvs.find? fun kv => decide (kv.1 = k)).map (·.2)
def putK (kvs : List (κ × V)) (k : κ) (v : V) : List (κ × V) :=
  if (kvs.any fun kv => decide (kv.1 = k)) = true then kvs.map (fun kv => if kv.1 = k then (kv.1, v) else kv) else kvs ++ [(k, v)]
def dropK (kvs : List (κ × V)) (k : κ) : List (κ × V) := kvs.filter fun kv => decide (kv.1 ≠ k)
theorem valV_pos {p : κ × V} {r : List (κ × V)} {k : κ} (e : p.1 = k) : valV (p :: r) k = some p.2 := by simp [valV, List.find?_cons, e]
theorem valV_neg {p : κ × V} {r : List (κ × V)} {k : κ} (e : ¬ p.1 = k) : valV (p :: r) k = valV r k := by simp [valV, List.find?_cons, e]
theorem valV_any (k : κ) : ∀ kvs : List (κ × V), (kvs.any fun kv => decide (kv.1 = k)) = (valV kvs k).isSome
  | [] => rfl
  | p :: r => by
    rw [List.any_cons]
    by_cases e : p.1 = k
    · simp only [valV_pos e, decide_eq_true e, Bool.true_or, Option.isSome_some]
    · rw [valV_neg e, decide_eq_false e, Bool.false_or]; exact valV_any k r
theorem valV_map (k j : κ) (y : V) : ∀ kvs : List (κ × V), valV (kvs.map fun kv => if kv.1 = k then (kv.1, y) else kv) j = (valV kvs j).map fun x => if j = k then y else x
  | [] => rfl
  | p :: r => by
    have ih := valV_map k j y r
    rw [List.map_cons]
    by_cases h : p.1 = k
    · rw [if_pos h]
      by_cases e : p.1 = j
      · rw [valV_pos (p := (p.1, y)) e, valV_pos e, Option.map_some, if_pos (e.symm.trans h)]
      · rw [valV_neg (p := (p.1, y)) e, valV_neg e, ih]
    · rw [if_neg h]
      by_cases e : p.1 = j
      · rw [valV_pos (p := p) e, valV_pos e, Option.map_some, if_neg (fun z => h (e.trans z))]
      · rw [valV_neg (p := p) e, valV_neg e, ih]
theorem valV_snoc (k j : κ) (y : V) : ∀ kvs : List (κ × V), valV kvs k = none → valV (kvs ++ [(k, y)]) j = if j = k then some y else valV kvs j
  | [], _ => by
    by_cases e : k = j
    · rw [if_pos e.symm]; exact valV_pos (p := (k, y)) e
    · rw [if_neg (fun z => e z.symm)]; exact valV_neg (p := (k, y)) e
  | p :: r, hn => by
    rw [List.cons_append]
    have hk : ¬ p.1 = k := fun z => by rw [valV_pos z] at hn; cases hn
    rw [valV_neg hk] at hn
    have ih := valV_snoc k j y r hn
    by_cases e : p.1 = j
    · rw [valV_pos e, valV_pos e, if_neg (fun z => hk (e.trans z))]
    · rw [valV_neg e, valV_neg e, ih]
theorem valV_put (kvs : List (κ × V)) (k j : κ) (y : V) : valV (putK kvs k y) j = if j = k then some y else valV kvs j := by
  unfold putK
  by_cases a : (kvs.any fun kv => decide (kv.1 = k)) = true
  · rw [if_pos a, valV_map]
    rw [valV_any] at a
    by_cases e : j = k
    · obtain ⟨x, hx⟩ := Option.isSome_iff_exists.mp a
      rw [if_pos e, e, hx, Option.map_some, if_pos rfl]
    · rw [if_neg e]
      cases valV kvs j with
      | none => rfl
      | some x => rw [Option.map_some, if_neg e]
  · rw [if_neg a]
    refine valV_snoc k j y kvs ?_
    rw [valV_any] at a
    cases q : valV kvs k with
    | none => rfl
    | some x => rw [q] at a; exact (a rfl).elim
theorem length_putK (kvs : List (κ × V)) (k : κ) (v : V) : (putK kvs k v).length ≤ kvs.length + 1 := by
  unfold putK
  split
  · rw [List.length_map]; omega
  · rw [List.length_append, List.length_cons, List.length_nil]; omega
theorem putK_new {kvs : List (κ × V)} {k : κ} (v : V) (h : valV kvs k = none) : putK kvs k v = kvs ++ [(k, v)] := by
  unfold putK
  rw [valV_any, h]
  exact if_neg (by decide)
theorem RelO.isSome_eq {o : Option V} {u : Option Value} (r : RelO o u) : o.isSome = u.isSome := by
  cases o with
  | none => cases u with
    | none => rfl
    | some _ => exact (show False from r).elim
  | some _ => cases u with
    | none => exact (show False from r).elim
    | some _ => rfl
theorem RelO.getD {o : Option V} {u : Option Value} {d : V} {d' : Value} (r : RelO o u) (rd : RelV d d') : RelV (o.getD d) (u.getD d') := by
  cases o with
  | none => cases u with
    | none => exact rd
    | some _ => exact (show False from r).elim
  | some _ => cases u with
    | none => exact (show False from r).elim
    | some _ => exact r
theorem KV.val {kvs : List (κ × V)} {vs : List (κ × Value)} (r : KV kvs vs) (k : κ) : RelO (valV kvs k) (valueAt vs k) := by
  unfold KV at r
  induction r with
  | nil => exact True.intro
  | @cons p q ps qs h t ih =>
    obtain ⟨h1, h2⟩ := h
    by_cases e : p.1 = k
    · have e' : q.1 = k := h1.symm.trans e
      have b : valueAt (q :: qs) k = some q.2 := by simp [valueAt, List.find?_cons, e']
      rw [valV_pos e, b]; exact h2
    · have e' : ¬ q.1 = k := fun z => e (h1.trans z)
      have b : valueAt (q :: qs) k = valueAt qs k := by simp [valueAt, List.find?_cons, e']
      rw [valV_neg e, b]; exact ih
theorem KV.any {kvs : List (κ × V)} {vs : List (κ × Value)} (r : KV kvs vs) (k : κ) : (kvs.any fun kv => decide (kv.1 = k)) = vs.any fun kv => decide (kv.1 = k) := by
  unfold KV at r
  induction r with
  | nil => rfl
  | cons h t ih => rw [List.any_cons, List.any_cons, ih, h.1]
theorem KV.repl {kvs : List (κ × V)} {vs : List (κ × Value)} (r : KV kvs vs) (k : κ) {y : V} {u : Value} (ry : RelV y u) :
    KV (kvs.map fun kv => if kv.1 = k then (kv.1, y) else kv) (vs.map fun kv => if kv.1 = k then (kv.1, u) else kv) := by
  unfold KV at r ⊢
  induction r with
  | nil => exact .nil
  | @cons p q ps qs h t ih =>
    rw [List.map_cons, List.map_cons]
    refine .cons ?_ ih
    obtain ⟨h1, h2⟩ := h
    by_cases e : p.1 = k
    · rw [if_pos e, if_pos (h1.symm.trans e)]; exact ⟨h1, ry⟩
    · rw [if_neg e, if_neg (fun z => e (h1.trans z))]; exact ⟨h1, h2⟩
theorem KV.put {kvs : List (κ × V)} {vs : List (κ × Value)} (r : KV kvs vs) (k : κ) {y : V} {u : Value} (ry : RelV y u) : KV (putK kvs k y) (stored vs k u) := by
  unfold putK stored
  rw [r.any k]
  by_cases e : (vs.any fun kv => decide (kv.1 = k)) = true
  · rw [if_pos e, if_pos e]; exact r.repl k ry
  · rw [if_neg e, if_neg e]; exact Paired.snoc r ⟨rfl, ry⟩
theorem KV.drop {kvs : List (κ × V)} {vs : List (κ × Value)} (r : KV kvs vs) (k : κ) : KV (dropK kvs k) (without vs k) := by
  unfold KV at r ⊢
  unfold dropK without
  induction r with
  | nil => exact .nil
  | @cons p q ps qs h t ih =>
    obtain ⟨h1, h2⟩ := h
    rw [List.filter_cons, List.filter_cons]
    by_cases e : p.1 = k
    · have a : ¬ decide (p.1 ≠ k) = true := by simp [e]
      have b : ¬ decide (q.1 ≠ k) = true := by simp [h1.symm.trans e]
      rw [if_neg a, if_neg b]; exact ih
    · have e' : ¬ q.1 = k := fun z => e (h1.trans z)
      have a : decide (p.1 ≠ k) = true := by simp [e]
      have b : decide (q.1 ≠ k) = true := by simp [e']
      rw [if_pos a, if_pos b]; exact .cons ⟨h1, h2⟩ ih
theorem KV.keys {kvs : List (κ × V)} {vs : List (κ × Value)} (r : KV kvs vs) : kvs.map (·.1) = vs.map (·.1) := by
  unfold KV at r
  induction r with
  | nil => rfl
  | cons h t ih => rw [List.map_cons, List.map_cons, ih, h.1]
theorem KV.length {kvs : List (κ × V)} {vs : List (κ × Value)} (r : KV kvs vs) : kvs.length = vs.length := Paired.length r
theorem dropK_le (kvs : List (κ × V)) (k : κ) : (dropK kvs k).length ≤ kvs.length := List.length_filter_le _ _
end
theorem kV_is {P : Program} {w : World} {k : Key} {u : Value} (r : RelV (kV k) u) : (mixKind P w).is k u = true := by
  cases k with
  | inl i => obtain ⟨t, e⟩ := (show ∃ t, u = Value.int i t from r); subst e; exact mixKind_int P w i t
  | inr x => obtain ⟨t, e⟩ := (show ∃ t, u = Value.str x t from r); subst e; exact mixKind_str P w x t
theorem items_are {P : Program} {w : World} : ∀ {ks : List Key} {us : List Value}, Vals (ks.map kV) us → ItemsAre (mixKind P w) ks us
  | [], _, r => by rw [List.map_nil] at r; cases r; exact .nil
  | k :: ks, _, r => by
    rw [List.map_cons] at r
    cases r with
    | cons h t => exact .cons (kV_is h) (items_are t)
abbrev KT (H : Hp) : List (List Key × V) → List (List Key × Addr × Value) → Prop := Paired fun p q => p.1 = q.1 ∧ H q.2.1 = some (.tup (p.1.map kV)) ∧ RelV p.2 q.2.2
theorem KT.val {H : Hp} {kvs : List (List Key × V)} {xs : List (List Key × Addr × Value)} (r : KT H kvs xs) (k : List Key) : RelO (valV kvs k) ((atKey xs k).map (·.2)) := by
  induction r with
  | nil => exact True.intro
  | @cons p q ps qs h t ih =>
    obtain ⟨h1, _, h2⟩ := h
    by_cases e : p.1 = k
    · have e' : q.1 = k := h1.symm.trans e
      have b : atKey (q :: qs) k = some q.2 := by simp [atKey, List.find?_cons, e']
      rw [valV_pos e, b]; exact h2
    · have e' : ¬ q.1 = k := fun z => e (h1.trans z)
      have b : atKey (q :: qs) k = atKey qs k := by simp [atKey, List.find?_cons, e']
      rw [valV_neg e, b]; exact ih
theorem KT.repl {H : Hp} {kvs : List (List Key × V)} {xs : List (List Key × Addr × Value)} (r : KT H kvs xs) (k : List Key) {y : V} {u : Value} (ry : RelV y u) :
    KT H (kvs.map fun kv => if kv.1 = k then (kv.1, y) else kv) (xs.map (putAt k u)) := by
  induction r with
  | nil => exact .nil
  | @cons p q ps qs h t ih =>
    rw [List.map_cons, List.map_cons]
    refine .cons ?_ ih
    obtain ⟨h1, h2, h3⟩ := h
    unfold putAt
    by_cases e : p.1 = k
    · rw [if_pos e, if_pos (h1.symm.trans e)]; exact ⟨h1, h2, ry⟩
    · rw [if_neg e, if_neg (fun z => e (h1.trans z))]; exact ⟨h1, h2, h3⟩
theorem KT.put {H : Hp} {kvs : List (List Key × V)} {xs : List (List Key × Addr × Value)} (r : KT H kvs xs) (k : List Key) {b : Addr} {y : V} {u : Value} (hb : H b = some (.tup (k.map kV))) (ry : RelV y u) :
    KT H (putK kvs k y) (storedH xs k b u) := by
  have e : (kvs.any fun kv => decide (kv.1 = k)) = (atKey xs k).isSome := by
    rw [valV_any, (r.val k).isSome_eq, Option.isSome_map]
  unfold putK storedH
  rw [e]
  by_cases q : (atKey xs k).isSome = true
  · rw [if_pos q, if_pos q]; exact r.repl k ry
  · rw [if_neg q, if_neg q]; exact Paired.snoc r ⟨rfl, hb, ry⟩
theorem KT.keeps {H H' : Hp} {kvs : List (List Key × V)} {xs : List (List Key × Addr × Value)} (r : KT H kvs xs) (ht : ∀ b ys, H b = some (.tup ys) → H' b = some (.tup ys)) : KT H' kvs xs :=
  Paired.mapP r fun _ _ z => ⟨z.1, ht _ _ z.2.1, z.2.2⟩
section
variable {P : Program} {w : World} {H : Hp} {h : Heap} {a : Addr}
theorem rd_of {u : HO} (ok : HOk P w H h) (e : Rd H a u) : ObjOk P w H h a u := e.ok ok
theorem dk_rd {kvs : List (Key × V)} (ok : HOk P w H h) (e : Rd H a (.dK kvs)) : kvs.length ≤ sizeLine ∧ (a == sysModules) = false ∧ ∃ vs, KV kvs vs ∧ h.DictOf (mixKind P w) a vs :=
  show ObjOk P w H h a (.dK kvs) from rd_of ok e
theorem dk_of {kvs : List (Key × V)} (ok : HOk P w H h) (e : H a = some (.dK kvs)) : kvs.length ≤ sizeLine ∧ (a == sysModules) = false ∧ ∃ vs, KV kvs vs ∧ h.DictOf (mixKind P w) a vs := dk_rd ok (.inl e)
theorem key_of {ks : List Key} (ok : HOk P w H h) (e : H a = some (.tup (ks.map kV))) : (tupleKind (mixKind P w)).is h ks a := by
  obtain ⟨_, its, r, o, h1, h2, n, h3⟩ := (show ObjOk P w H h a (.tup (ks.map kV)) from ok a _ e)
  exact ⟨o, its.toArray, n, h1, h2, h3, by simpa using items_are r⟩
theorem dt_rd {kvs : List (List Key × V)} (ok : HOk P w H h) (e : Rd H a (.dT kvs)) : kvs.length ≤ sizeLine ∧ (a == sysModules) = false ∧
    ∃ xs, KT H kvs xs ∧ h.DictOfH (tupleKind (mixKind P w)) a xs := by
  obtain ⟨z, y, xs, r, o, es, ep, h1, h2, h3, h4, h5⟩ := (show ObjOk P w H h a (.dT kvs) from rd_of ok e)
  refine ⟨z, y, xs, r, o, es, ep, h1, h2, h3, h4, fun x hx => ?_, h5⟩
  have all : ∀ {l : List (List Key × V)} {m : List (List Key × Addr × Value)}, KT H l m → ∀ x ∈ m, (tupleKind (mixKind P w)).is h x.1 x.2.1 := by
    intro l m q
    induction q with
    | nil => intro x hx; exact nomatch hx
    | @cons p q ps qs hq t ih =>
      intro x hx
      rcases List.mem_cons.mp hx with e | hx
      · subst e
        exact key_of ok (by rw [← hq.1]; exact hq.2.1)
      · exact ih x hx
  exact all r x hx
theorem dt_of {kvs : List (List Key × V)} (ok : HOk P w H h) (e : H a = some (.dT kvs)) : kvs.length ≤ sizeLine ∧ (a == sysModules) = false ∧
    ∃ xs, KT H kvs xs ∧ h.DictOfH (tupleKind (mixKind P w)) a xs := dt_rd ok (.inl e)
end
def DGet (H : Hp) (a : Addr) (y : V) (r : Option V) : Prop :=
  (∃ kvs k, Rd H a (.dK kvs) ∧ y = kV k ∧ r = valV kvs k) ∨ ∃ kvs k b, Rd H a (.dT kvs) ∧ y = .ref b ∧ H b = some (.tup (k.map kV)) ∧ r = valV kvs k
def DPut (H : Hp) (a : Addr) (y v : V) (H' : Hp) : Prop :=
  (∃ kvs k, H a = some (.dK kvs) ∧ y = kV k ∧ kvs.length < sizeLine ∧ H' = upd H a (.dK (putK kvs k v))) ∨
  ∃ kvs k b, H a = some (.dT kvs) ∧ y = .ref b ∧ H b = some (.tup (k.map kV)) ∧ kvs.length < sizeLine ∧ H' = upd H a (.dT (putK kvs k v))
theorem DGet.k {H : Hp} {a : Addr} {kvs : List (Key × V)} {k : Key} (e : H a = some (.dK kvs)) : DGet H a (kV k) (valV kvs k) := .inl ⟨kvs, k, .inl e, rfl, rfl⟩
theorem DGet.t {H : Hp} {a b : Addr} {kvs : List (List Key × V)} {k : List Key} (e : H a = some (.dT kvs)) (eb : H b = some (.tup (k.map kV))) : DGet H a (.ref b) (valV kvs k) := .inr ⟨kvs, k, b, .inl e, rfl, eb, rfl⟩
theorem DPut.k {H : Hp} {a : Addr} {kvs : List (Key × V)} {k : Key} {v : V} (e : H a = some (.dK kvs)) (hl : kvs.length < sizeLine) : DPut H a (kV k) v (upd H a (.dK (putK kvs k v))) := .inl ⟨kvs, k, e, rfl, hl, rfl⟩
theorem DPut.t {H : Hp} {a b : Addr} {kvs : List (List Key × V)} {k : List Key} {v : V} (e : H a = some (.dT kvs)) (eb : H b = some (.tup (k.map kV))) (hl : kvs.length < sizeLine) :
    DPut H a (.ref b) v (upd H a (.dT (putK kvs k v))) := .inr ⟨kvs, k, b, e, rfl, eb, hl, rfl⟩
section
variable {X : Cx} {pins : List (Addr × Obj)} {σ : St} {H : Hp} {s : Shared} {a : Addr} {y v : V} {u r : Value} {o : Option V} {A : Around} {E : Value → Shared → Prop}
theorem Inv.big (I : Inv X pins σ H s) : sysModules < s.heap.objs.size := by
  have h : mainGlobals < s.heap.objs.size := (I.mod.glob.keeps I.bk).lt
  exact Nat.lt_trans (by decide) h
theorem d_getItem {Q : Value → Shared → Prop} (hu : A.units + 1 < cLine) (I : Inv X pins σ H s) (g : DGet H a y (some v)) (ry : RelV y u) (h : ∀ w' s', Inv X pins σ H s' → RelV v w' → Q w' s') :
    wpAny (model X.prog X.w) A (getItem (.ref a) u) Q E s := by
  rcases g with ⟨kvs, k, e, ey, l⟩ | ⟨kvs, k, b, e, ey, eb, l⟩
  · subst ey
    obtain ⟨z, hd, vs, rel, dd⟩ := dk_rd I.hok e
    obtain ⟨w', hw, rw'⟩ := RelO.some_of (v := v) (o := valueAt vs k) (by rw [l]; exact rel.val k)
    exact wpAny_getItem_of (kV_is ry) dd.mapOf hw (h w' _ (I.tok _) rw')
  · subst ey
    cases (show u = Value.ref b from ry)
    obtain ⟨z, hd, xs, rel, dd⟩ := dt_rd I.hok e
    obtain ⟨w', hw, rw'⟩ := RelO.some_of (v := v) (o := (atKey xs k).map (·.2)) (by rw [l]; exact rel.val k)
    obtain ⟨p, hp, hp2⟩ := Option.map_eq_some_iff.mp hw
    refine wpAny_getItem_heap (tupleKind_room_in1 hu) (key_of I.hok eb) dd hp ?_
    rw [hp2]
    exact h w' _ (I.tok _) rw'
theorem d_in {Q : Value → Shared → Prop} (hu : A.units + 1 < cLine) (I : Inv X pins σ H s) (g : DGet H a y o) (ry : RelV y u) (h : ∀ s', Inv X pins σ H s' → Q (.bool o.isSome) s') :
    wpAny (model X.prog X.w) A (compareOp .In u (.ref a)) Q E s := by
  rcases g with ⟨kvs, k, e, ey, l⟩ | ⟨kvs, k, b, e, ey, eb, l⟩
  · subst ey
    obtain ⟨z, hd, vs, rel, dd⟩ := dk_rd I.hok e
    refine wpAny_in_of (kV_is ry) hd dd.mapOf ?_
    rw [← (rel.val k).isSome_eq, ← l]
    exact h _ (I.tok _)
  · subst ey
    cases (show u = Value.ref b from ry)
    obtain ⟨z, hd, xs, rel, dd⟩ := dt_rd I.hok e
    refine wpAny_in_heap (tupleKind_room_in1 hu) (key_of I.hok eb) hd dd ?_
    have q := (rel.val k).isSome_eq
    rw [Option.isSome_map] at q
    rw [← q, ← l]
    exact h _ (I.tok _)
theorem d_notIn {Q : Value → Shared → Prop} (hu : A.units + 1 < cLine) (I : Inv X pins σ H s) (g : DGet H a y o) (ry : RelV y u) (h : ∀ s', Inv X pins σ H s' → Q (.bool (!o.isSome)) s') :
    wpAny (model X.prog X.w) A (compareOp .NotIn u (.ref a)) Q E s := by
  rcases g with ⟨kvs, k, e, ey, l⟩ | ⟨kvs, k, b, e, ey, eb, l⟩
  · subst ey
    obtain ⟨z, hd, vs, rel, dd⟩ := dk_rd I.hok e
    refine wpAny_notIn_of (kV_is ry) hd dd.mapOf ?_
    rw [← (rel.val k).isSome_eq, ← l]
    exact h _ (I.tok _)
  · subst ey
    cases (show u = Value.ref b from ry)
    obtain ⟨z, hd, xs, rel, dd⟩ := dt_rd I.hok e
    refine wpAny_notIn_heap (tupleKind_room_in1 hu) (key_of I.hok eb) hd dd ?_
    have q := (rel.val k).isSome_eq
    rw [Option.isSome_map] at q
    rw [← q, ← l]
    exact h _ (I.tok _)
theorem d_write {h' : Heap} {t' : Nat} {ob : HO} (I : Inv X pins σ H s) (mu : Mut (H a)) (hs : Heap.SameBut a s.heap h') (he : ∃ q, h'.get? a = some q) (new : ObjOk X.prog X.w (upd H a ob) h' a ob) :
    Inv X pins σ (upd H a ob) { s with heap := h', toks := t' } :=
  I.write (x := a) (e := a) mu (.inl rfl) (fun b q hb z => (hs.2 b hb).trans z) he new
theorem dk_new {P : Program} {w : World} {H' : Hp} {h' : Heap} {kvs : List (Key × V)} {vs : List (Key × Value)} (z : kvs.length ≤ sizeLine) (hd : (a == sysModules) = false) (rel : KV kvs vs) (dd : h'.DictOf (mixKind P w) a vs) :
    ObjOk P w H' h' a (.dK kvs) := ⟨z, hd, vs, rel, dd⟩
theorem d_setItem {H' : Hp} {Q : Unit → Shared → Prop} (hu : A.units + 1 < cLine) (I : Inv X pins σ H s) (g : DPut H a y v H') (ry : RelV y u) (rv : RelV v r) (h : ∀ s', Inv X pins σ H' s' → Q () s') :
    wpAny (model X.prog X.w) A (setItem (.ref a) u r) Q E s := by
  rcases g with ⟨kvs, k, e, ey, l, eH⟩ | ⟨kvs, k, b, e, ey, eb, l, eH⟩
  · subst ey eH
    obtain ⟨z, hd, vs, rel, dd⟩ := dk_of I.hok e
    have hz : vs.length ≤ sizeLine := by rw [← rel.length]; exact z
    have hl : (putK kvs k v).length ≤ sizeLine := by have := length_putK kvs k v; omega
    refine wpAny_setItem_pairs (hsz := hz) (kV_is ry) dd fun h' dd' hs => h _ ?_
    have he : ∃ q, h'.get? a = some q := let ⟨q, _, _, hq, _⟩ := dd'; ⟨q, hq⟩
    exact d_write I (by rw [e]; exact True.intro) hs he (dk_new hl hd (rel.put k rv) dd')
  · subst ey eH
    cases (show u = Value.ref b from ry)
    obtain ⟨z, hd, xs, rel, dd⟩ := dt_of I.hok e
    have hz : xs.length ≤ sizeLine := by rw [← Paired.length rel]; exact z
    have hl : (putK kvs k v).length ≤ sizeLine := by have := length_putK kvs k v; omega
    refine wpAny_setItem_heap (hsz := hz) (tupleKind_room_in1 hu) (key_of I.hok eb) dd fun h' dd' hs => h _ ?_
    obtain ⟨q, es, ep, hq, h2, h3, h4, _, h5⟩ := dd'
    refine d_write I (by rw [e]; exact True.intro) hs ⟨q, hq⟩ ⟨hl, hd, _, (rel.put k eb rv).keeps fun c ys ec => ?_, q, es, ep, hq, h2, h3, h4, h5⟩
    rw [upd_ne (ne_of ec e (fun z => nomatch z))]
    exact ec
end
section
variable {X : Cx} {pins : List (Addr × Obj)} {σ : St} {H : Hp} {s : Shared} {a : Addr} {kvs : List (Key × V)} {k : Key} {u : Value} {A : Around} {E : Value → Shared → Prop}
theorem d_len {Q : Value → Shared → Prop} (I : Inv X pins σ H s) (e : Rd H a (.dK kvs)) (h : ∀ t s', Inv X pins σ H s' → Q (.int kvs.length t) s') : wpAny (model X.prog X.w) A (call (.builtin "len") [.ref a]) Q E s := by
  obtain ⟨z, hd, vs, rel, dd⟩ := dk_rd I.hok e
  refine call_len_dict hd dd (by rw [← rel.length]; rw [sizeLine_eq] at z; omega) ?_
  rw [← rel.length]
  exact h _ _ (I.tok _)
end
theorem dict_typeIs {X : Cx} {pins : List (Addr × Obj)} {σ : St} {H : Hp} {s : Shared} {a : Addr} {y : V} {o : Option V} (I : Inv X pins σ H s) (g : DGet H a y o) : s.TypeIs (.ref a) "dict" := by
  rcases g with ⟨kvs, k, e, _, _⟩ | ⟨kvs, k, b, e, _, _, _⟩
  · obtain ⟨_, _, vs, _, dd⟩ := dk_rd I.hok e
    exact dd.typeIs
  · obtain ⟨_, _, xs, _, dd⟩ := dt_rd I.hok e
    exact dd.typeIs
section
variable {X : Cx} {o i e value : Expr} {pos pos' tpos : Pos} {td ty tv : TE}
end
theorem dk_empty {P : Program} {w : World} {H : Hp} (h : Heap) (hb : sysModules < h.objs.size) : ObjOk P w H (h.push { cls := .type "dict", data := .dict #[] }) h.objs.size (.dK []) :=
  ⟨Nat.zero_le _, beq_eq_false_iff_ne.mpr (Ne.symm (Nat.ne_of_lt hb)), [], .nil, Heap.DictOf.new h⟩
def tDNewK : TE := fun _ H Q => ∀ p, H p = none → Q (.ref p) (upd H p (.dK []))
section
variable {X : Cx} {pos : Pos}
theorem pe_dnewK : PE X (.Dict [] [] pos) tDNewK := fun pins s σ H Q I h =>
  wpAny_Dict_empty ⟨.ref s.heap.objs.size, _, I.laid (a := s.heap.objs.size) (o := .dK []) (t' := s.toks) (fun _ _ q => Heap.get?_push_of_some _ q) (Nat.le_refl _) (dk_empty s.heap I.big), rfl, h _ (I.hok.fresh (Nat.le_refl _))⟩
end
section
variable {X : Cx} {pins : List (Addr × Obj)} {σ : St} {H : Hp} {s : Shared} {a : Addr} {y d : V} {u r : Value} {o : Option V} {A : Around} {E : Value → Shared → Prop}
end
section
variable {X : Cx} {o e f : Expr} {apos cpos : Pos} {td ty tx : TE}
end
section
variable {X : Cx} {pins : List (Addr × Obj)} {σ : St} {H : Hp} {s : Shared} {a : Addr} {kvs : List (Key × V)} {A : Around} {E : Value → Shared → Prop}
end
section
variable {X : Cx} {pins : List (Addr × Obj)} {σ : St} {H : Hp} {s : Shared} {a : Addr} {y : V} {u : Value} {A : Around} {E : Value → Shared → Prop}
end
end L2
namespace Att
open PySem PySem.W PySem.Calls PyProof.Rows
theorem ints_of_wellAll {P : Params} {h : Heap} : ∀ (ns : List Int) (vs : List Value), WellAll P h vs (ns.map WData.int) → IntsAre vs ns := by
  intro ns
  induction ns with
  | nil =>
    intro vs w
    rw [List.map_nil] at w
    cases w
    exact .nil
  | cons n ns ih =>
    intro vs w
    rw [List.map_cons] at w
    cases w with
    | cons a b =>
      cases a
      exact .cons _ _ (ih _ b)
theorem script_of {l : OpenLaw} {n : Nat} (hn : l.most = some n) {P : Params} {h : Heap} {args : List WData} {vals : List Value}
    (hpre : l.row.toRowW.claim.pre args = true) (hwl : WellAll P h vals args) :
    ∃ a vs ns, vals = [Value.ref a] ∧ args = [WData.list (ns.map WData.int)] ∧ h.get? a = some { cls := .type "list", data := .seq vs.toArray } ∧ IntsAre vs ns ∧ ns.length ≤ n := by
  have hsh : WShape.hasAll [] args [.list .int] = true := (pre_splitW hpre).1
  have hc : l.pre.holds [] { args := args } = true := (pre_splitW hpre).2
  obtain ⟨d, r, rfl, h1, h2⟩ := hasAllW_cons hsh
  obtain rfl := hasAllW_nil h2
  obtain ⟨xs, rfl, h3⟩ := hasW_list h1
  obtain ⟨ns, rfl⟩ := items_int h3
  have hlen : ns.length ≤ n := by
    unfold OpenLaw.pre at hc
    have h4 : (WTm.not (.lt (.lit (.int (n : Int))) (.len (.arg 0)))).holds [] { args := [.list (ns.map .int)] } = true := by
      have h4 := (holds_andW hc).1
      rw [hn] at h4
      exact h4
    have h5 := condW_of h4 (w_not (w_lt w_lit (w_len_list (w_arg rfl))))
    rw [List.length_map] at h5
    refine Nat.le_of_not_lt fun q => ?_
    have q' : (n : Int) < ((ns.length : Nat) : Int) := by omega
    first
      | (rw [decide_eq_true q'] at h5; exact absurd h5 (by decide))
      | (simp at h5; omega)
  cases hwl with
  | cons w1 w2 =>
    cases w2
    cases w1 with
    | list ho hall => exact ⟨_, _, ns, rfl, rfl, ho, ints_of_wellAll ns _ hall, hlen⟩
theorem post_true (l : OpenLaw) (args : List WData) : l.row.toRowW.claim.post args (.bool true) args = true :=
  postW_of (r := l.row.toRowW) (X := (true == true))
    (show WShape.has [] (.bool true) .bool = true by first | rfl | decide | simp [WShape.has, WShape.arms, WShape.armsAll])
    (show (WTm.eq .res (.lit (.bool true))).value [] { args := args, res := some (.bool true), after := args } = some (.bool (true == true)) from w_eq_bool (w_res rfl) w_lit) rfl
theorem attach_call {l : OpenLaw} {n : Nat} {q : Program} {loose : List Str} {XP : (Str → Option Value) → Heap → Prop} {YP : World → Heap → Prop} {d : DefRec}
    (hn : l.most = some n) (hdf : d.params.defaults = [])
    (call : ∀ (w : World) (s₀ s₁ : Shared) (mg mb : Str → Option Value) (fa : Addr) (o : Obj) (pm cd doc : Value) (a : Addr) (vs : List Value) (ns : List Int),
      Ground q loose [] XP w s₀ mg mb s₁.heap → YP w s₁.heap →
      s₁.heap.get? fa = some o → o.data = .func (docDef d.name d.params d.body d.scope pm cd doc) → s₁.heap.CodeRec cd d.name → mg d.name = some (.ref fa) →
      s₁.heap.get? a = some { cls := .type "list", data := .seq vs.toArray } → IntsAre vs ns → ns.length ≤ n → s₁.gens = #[] →
      codeAny (model l.prog w) callerA (.call (.ref fa) ⟨[.ref a], []⟩) (fun r s' => r = .ok (.ret (.bool true)) ∧ OldK s₁.heap s'.heap ∧ s'.os = s₁.os ∧ AllBare s'.gens) s₁) :
    WalkO q loose XP YP l.row.toRowW d [] (fun f vs => PySem.call f vs) := by
  intro w s₀ s₁ mg mb G Y fa o pm cd doc dV kV ho hd hcd hD hmg hg args vals as hpre hlay hrd hwl hlo
  obtain rfl : dV = .none := Dflts.none hD hdf
  obtain rfl : kV = .none := Dflts.noKw hD
  obtain ⟨a, vs, ns, rfl, rfl, hobj, hints, hlen⟩ := script_of hn hpre hwl
  refine enter_call (codeAny_mono (call w s₀ s₁ mg mb fa o pm cd doc a vs ns G Y ho (fd_plain hd) hcd hmg hobj hints hlen hg) fun r s' hq => ?_)
  obtain ⟨rfl, h2, h3, h4⟩ := hq
  exact ⟨.inl ⟨.bool true, .bool true, [], rfl, fun _ => rfl, .bool true, post_true l _, fun _ => ⟨List.Pairwise.nil, fun _ hm => (nomatch hm)⟩⟩, h2, h3, h4⟩
section
variable {prog : Program} {w : World} {A : Around} {E : Value → Shared → Prop} {s : Shared} {K : Frag}
end
end Att
namespace L2
open PySem PySem.Spec PyProof.Rows
theorem vals_ints : ∀ {vs : List Value} {ns : List Int}, IntsAre vs ns → Vals (ns.map V.int) vs
  | _, _, .nil => .nil
  | _, _, .cons n t h => .cons ⟨t, rfl⟩ (vals_ints h)
def Only (H : Hp) : Prop := ∀ b, H b = none ∨ ∃ o xs, H b = some (.frz o (.lst xs))
theorem law_call {P : Program} {w : World} {K : PySem.W.Frag} {mg mb : Str → Option Value} {CX : CXT} {k : Nat} {fa a : Addr} {fd : FuncData} {x : Str} {sp : Sp} {s₁ : Shared} {vs : List Value} {ns : List Int}
    (KX : K.In s₁.heap) (hns : s₁.heap.Ns mainGlobals mg) (hb : s₁.heap.Ns builtinsNs mb) (hbb : ∀ x : Str, x ≠ "__name__" → mb x = bootBuiltins x) (hlim : s₁.heap.NoLimit) (hg : s₁.gens = #[])
    (ha : s₁.heap.get? a = some { cls := .type "list", data := .seq vs.toArray }) (hi : IntsAre vs ns) (hl : ns.length ≤ sizeLine) (hr : Room k callerA)
    (F : ∀ base : Heap, K.In base → base.Ns mainGlobals mg → FnOk P w K mg base CX k fa fd [x] sp) (hbind : ∀ (s : Shared) (u : Value), BindsTo s fd ⟨[u], []⟩ [(x, u)])
    (hsp : ∀ H : Hp, Only H → SqL K H a (ns.map V.int) → sp [.ref a] H (fun v _ => v = .bl true) fun _ _ _ => False)
    (hCX : ∀ H e s', CX [] H s₁ (fun _ _ _ => False) e s' → False) :
    codeAny (model P w) callerA (.call (.ref fa) ⟨[.ref a], []⟩) (fun r s' => r = .ok (.ret (.bool true)) ∧ OldK s₁.heap s'.heap ∧ s'.os = s₁.os ∧ AllBare s'.gens) s₁ := by
  have rv := vals_ints hi
  have lenV := hi.length
  -- from an abstract heap in which nothing but the script may be tracked
  have core : ∀ H : Hp, Only H → SqL K H a (ns.map V.int) → HOk P w H s₁.heap → (∀ b, H b ≠ none → b = a) → (H a ≠ none → K.lookup a = none) →
      codeAny (model P w) callerA (.call (.ref fa) ⟨[.ref a], []⟩) (fun r s' => r = .ok (.ret (.bool true)) ∧ OldK s₁.heap s'.heap ∧ s'.os = s₁.os ∧ AllBare s'.gens) s₁ := by
    intro H hO hS hok hA hK
    have base_of : ∀ {b : Addr} {o : Obj}, s₁.heap.get? b = some o → H b = none → (hidT s₁.heap H).get? b = some o := fun e n => hidT_get e n
    have noA : ∀ {b : Addr} {o : Obj} {es : Array DictEntry} {ep : Nat}, s₁.heap.get? b = some o → o.data = .dict es ep → H b = none := fun {b o es ep} e d => by
      cases q : H b with
      | none => rfl
      | some u =>
        have e' : b = a := hA b (by rw [q]; simp)
        subst e'
        rw [ha] at e; cases e
        have d' : Data.seq vs.toArray _ = Data.dict es ep := d
        cases d'
    have nsK : ∀ {b : Addr} {m : Str → Option Value}, s₁.heap.Ns b m → (hidT s₁.heap H).Ns b m := fun {b m} ⟨o, es, ep, e, d, r⟩ => ⟨o, es, ep, base_of e (noA e d), d, r⟩
    have hKb : K.In (hidT s₁.heap H) := fun b o e => base_of (KX b o e) (by
      cases q : H b with
      | none => rfl
      | some u =>
        have e' : b = a := hA b (by rw [q]; simp)
        subst e'
        rw [hK (by rw [q]; simp)] at e; cases e)
    have hM : Mod K mg (hidT s₁.heap H) := ⟨hKb, nsK hns, ⟨mb, nsK hb, hbb⟩, let ⟨mc, h1, h2⟩ := hlim; ⟨mc, nsK h1, h2⟩⟩
    have e0 : Env0 P w K mg (hidT s₁.heap H) callerA [] s₁ H := ⟨rfl, hM, fun b o e => of_hidT e, Nat.le_of_eq (hidT_size _ _), trivial, fun b hb => absurd (show b ∈ ([] : List Addr) from hb) (by simp), hok, .of_eq hg⟩
    refine codeAny_mono ((F _ hKb (nsK hns)).run callerA [] s₁ H ⟨[.ref a], []⟩ [.ref a] [.ref a] _ _ hr e0 (hbind s₁ (.ref a)) (.cons rfl .nil) (hsp H hO hS)) fun r s' h => ?_
    cases r with
    | error e => exact (hCX H e s' h).elim
    | ok fl =>
      cases fl with
      | next => exact False.elim h
      | brk => exact False.elim h
      | cont => exact False.elim h
      | ret u =>
        obtain ⟨v, H', os, bare, un, hok', r', q⟩ := h
        have q' : v = .bl true := q
        subst q'
        obtain rfl : u = Value.bool true := r'
        refine ⟨rfl, OldK.of_keep fun b o e => ?_, os, bare⟩
        cases q : H b with
        | none => exact un.keep b o e q (by intro z; exact absurd (show b ∈ ([] : List Addr) from z) (by simp)) (by simp)
        | some u =>
          rcases hO b with z | ⟨ob, xs, z⟩
          · rw [q] at z; cases z
          · have z2 := un.frzs b ob _ z
            obtain ⟨e1, _⟩ := hok b _ z
            obtain ⟨e2, _⟩ := hok' b _ z2
            rw [e] at e1; cases e1
            exact e2
  cases hk : K.lookup a with
  | some o =>
    -- the script is one of the module's own objects
    have e := KX a o hk
    rw [ha] at e
    cases e
    refine core (fun _ => none) (fun _ => .inl rfl) (.inr ⟨_, vs.toArray, _, hk, rfl, rfl, rfl, by rw [List.size_toArray, lenV]; exact hl, by simpa using rv⟩) (fun b u z => by have z' : (none : Option HO) = some u := z; cases z') (fun b z => absurd rfl z) fun z => absurd rfl z
  | none =>
    refine core (fun b => if b = a then some (.frz { cls := .type "list", data := .seq vs.toArray } (.lst (ns.map V.int))) else none) (fun b => ?_) (.inl (.inr ⟨{ cls := .type "list", data := .seq vs.toArray }, if_pos rfl⟩)) (fun b u z => ?_) (fun b z => ?_) fun _ => hk
    · by_cases hb : b = a
      · exact .inr ⟨_, _, if_pos hb⟩
      · exact .inl (if_neg hb)
    · by_cases hb : b = a
      · have z' := (if_pos hb).symm.trans z
        cases z'
        subst hb
        exact ⟨ha, by rw [List.length_map]; exact hl, vs, _, rv, ha⟩
      · have z' := (if_neg hb).symm.trans z
        cases z'
    · by_cases hb : b = a
      · exact hb
      · exact absurd (if_neg hb) z
end L2
namespace L2
open PySem PySem.Spec PyProof.Rows
theorem walk_of {l : PySem.W.OpenLaw} {n k : Nat} {q : Program} {loose : List Str} {XP : (Str → Option Value) → Heap → Prop} {YP : World → Heap → Prop} {d : DefRec} {K : Params → PySem.W.Frag} {CX : World → CXT} {sp : World → Sp} {x : Str}
    (hn : l.most = some n) (hn2 : n ≤ sizeLine) (hdf : d.params.defaults = []) (hr : Room k callerA)
    (hY : ∀ (w : World) (h : Heap), YP w h → (K w.params).In h)
    (F : ∀ (w : World) (mg : Str → Option Value) (fa : Addr) (h : Heap), (K w.params).In h → h.Ns mainGlobals mg → mg d.name = some (.ref fa) →
      ∃ fd : FuncData, (∀ (s : Shared) (u : Value), BindsTo s fd ⟨[u], []⟩ [(x, u)]) ∧
        ∀ base : Heap, (K w.params).In base → base.Ns mainGlobals mg → FnOk l.prog w (K w.params) mg base (CX w) k fa fd [x] (sp w))
    (hsp : ∀ (w : World) (H : Hp) (a : Addr) (ns : List Int), ns.length ≤ n → Only H → SqL (K w.params) H a (ns.map V.int) → sp w [.ref a] H (fun v _ => v = .bl true) fun _ _ _ => False)
    (hCX : ∀ (w : World) (H : Hp) (s : Shared) (e : Value) (s' : Shared), CX w [] H s (fun _ _ _ => False) e s' → False) :
    PySem.W.WalkO q loose XP YP l.row.toRowW d [] (fun f vs => PySem.call f vs) := by
  refine Att.attach_call hn hdf fun w s₀ s₁ mg mb fa o pm cd doc a vs ns G Y ho hd hcd hmg hobj hints hlen hg => ?_
  have KX := hY w _ Y
  obtain ⟨fd, hb, hF⟩ := F w mg fa _ KX G.T.g hmg
  exact law_call KX G.T.g G.T.b G.T.builtins G.T.nolimit hg hobj hints (Nat.le_trans hlen hn2) hr hF hb (fun H hO hS => hsp w H a ns hlen hO hS) fun H e s' => hCX w H s₁ e s'
end L2
namespace L2
open PySem PySem.Spec PyProof.Rows
def defArgs (s : Stmt) : Arguments := match s with
  | .FunctionDef _ a _ _ _ _ _ _ _ _ => a
  | _ => { posonlyargs := [], args := [], vararg := none, kwonlyargs := [], kw_defaults := [], kwarg := none, defaults := [] }
def defBody (s : Stmt) : List Stmt := match s with
  | .FunctionDef _ _ b _ _ _ _ _ _ _ => b
  | _ => []
def defScope (s : Stmt) : Scope := match s with
  | .FunctionDef _ _ _ _ _ _ sc _ _ _ => sc
  | _ => { kind := .function, names := [], isGenerator := false, isCoroutine := false }
abbrev CX0 : CXT := fun _ _ _ _ _ _ => False
abbrev E0 : XK := fun _ _ _ => False
theorem pass0 {X : Cx} : Passes CX0 X E0 := fun _ _ _ _ _ _ _ h => h.elim
structure Fun (K : PySem.W.Frag) (x qual : Str) (st : Stmt) (f : Addr) (fd : FuncData) : Prop where
  ex : ∃ (oc : Value) (od : Option Addr) (kV doc pm : Value) (an : Option Addr) (cdv ct : Value) (osl : Array (Option Value)),
    fd = PySem.W.fnOf x qual (defArgs st) (defBody st) (defScope st) .none kV doc pm an cdv ct ∧ K.lookup f = some ⟨oc, od, .func fd, osl⟩ ∧ PySem.W.codeIn K cdv qual = true
  kp : PySem.W.keepIn K (.ref f) = true
section
variable {P : Program} {w : World} {K : PySem.W.Frag} {mg : Str → Option Value} {base : Heap}
theorem Fun.ok {x qual : Str} {st : Stmt} {f : Addr} {fd : FuncData} {N ps : List Str} {k : Nat} {sp : Sp} (F : Fun K x qual st f fd) (S : FnScope N ps (defScope st)) (len : ∀ vs H Q E, sp vs H Q E → vs.length = ps.length)
    (hbody : ∀ (cdv : Value) (A : Around) (outer : List Env) (s : Shared) (H : Hp) (vs : List V) (Q : VK) (E : XK), Room k (A.deeper (envOfC qual (defScope st) s.heap.objs.size f cdv)) → sp vs H Q E →
      ∃ t, PSs (cxOf CX0 P w K mg base N qual (defScope st) f cdv A outer s H E).nox (defBody st) t ∧ t { nx := fun _ H' => Q .non H', rt := Q } (start N vs) H) : FnOk P w K mg base CX0 (k + 1) f fd ps sp := by
  obtain ⟨oc, od, kV, doc, pm, an, cdv, ct, osl, rfl, lk, hcd⟩ := F.ex
  refine fn_of lk hcd S len fun A outer s H vs Q E hr hsp => ?_
  obtain ⟨t, h, q⟩ := hbody cdv A outer s H vs Q E hr hsp
  exact ⟨t, h.nox, q⟩
theorem Fun.binds {x qual : Str} {st : Stmt} {f : Addr} {fd : FuncData} {ps : List Str} (F : Fun K x qual st f fd)
    (h : ∀ (kV doc pm : Value) (an : Option Addr) (cdv ct : Value) (us : List Value), us.length = ps.length → bindArgs (PySem.W.fnOf x qual (defArgs st) (defBody st) (defScope st) .none kV doc pm an cdv ct) ⟨us, []⟩ = pure (ps.zip us)) : Binds K fd ps [] := by
  obtain ⟨oc, od, kV, doc, pm, an, cdv, ct, osl, rfl, lk, hcd⟩ := F.ex
  exact .all (h kV doc pm an cdv ct)
theorem fun_mk {x qual : Str} {st : Stmt} {f : Addr} {oc : Value} {od an : Option Addr} {osl : Array (Option Value)} {kV doc pm cdv ct : Value} (l : K.lookup f = some ⟨oc, od, .func (PySem.W.fnOf x qual (defArgs st) (defBody st) (defScope st) .none kV doc pm an cdv ct), osl⟩)
    (c : PySem.W.codeIn K cdv qual = true) (k : PySem.W.keepIn K (.ref f) = true) : Fun K x qual st f (PySem.W.fnOf x qual (defArgs st) (defBody st) (defScope st) .none kV doc pm an cdv ct) := ⟨⟨oc, od, kV, doc, pm, an, cdv, ct, osl, rfl, l, c⟩, k⟩
end
theorem hu_of {A : Around} {k : Nat} (hr : Room k A) : A.units + 1 < cLine := Nat.lt_of_le_of_lt (Nat.add_le_add_left (by decide : 1 ≤ 64) _) hr.units
section
variable {X : Cx}
theorem pv (i : Nat) {x : Str} {pos : Pos} (hN : X.N[i]? = some x := by rfl) (hv : Vis X.env.scope x := by first | exact Or.inl rfl | exact Or.inr (Or.inl rfl) | exact Or.inr (Or.inr rfl)) (hd : (x == ("__debug__" : Str)) = false := by decide)
    (hcd : (x == ("__classdict__" : Str)) = false := by decide) : PE X (.Name x pos) (tVar i) := pe_var hN hv hd hcd
theorem call_lenD : CallR X (.builtin "len") (fun xs H Q => ∃ a kvs, xs = [V.ref a] ∧ H a = some (.dK kvs) ∧ Q (.int kvs.length) H) := by
  intro pins s σ H xs us Q I r h
  obtain ⟨a, kvs, rfl, ha, q⟩ := h
  obtain ⟨u, rfl, ru⟩ := vals1 r
  cases ru
  exact d_len I (.inl ha) fun t s' I' => ⟨.int kvs.length, H, I', ⟨t, rfl⟩, q⟩
end
def Same (H H' : Hp) : Prop := ∀ b o, H b = some o → H' b = some o
theorem Same.refl (H : Hp) : Same H H := fun _ _ h => h
theorem Same.trans {H H1 H2 : Hp} (a : Same H H1) (b : Same H1 H2) : Same H H2 := fun c o h => b c o (a c o h)
theorem Same.free {H H' : Hp} (e : Same H H') {l : Addr} (h : H' l = Option.none) : H l = Option.none := by
  cases q : H l with
  | none => rfl
  | some o =>
    rw [e l o q] at h
    cases h
theorem Same.seq {K : PySem.W.Frag} {H H' : Hp} {a : Addr} {xs : List V} (e : Same H H') (h : SqL K H a xs) : SqL K H' a xs := by
  rcases h with (h | ⟨o, h⟩) | h
  · exact .inl (.inl (e _ _ h))
  · exact .inl (.inr ⟨o, e _ _ h⟩)
  · exact .inr h
section
variable {κ : Type} [DecidableEq κ]
end
end L2
set_option Elab.async false
set_option linter.all false
set_option maxRecDepth 100000
set_option maxHeartbeats 4000000
namespace L2
open PySem PySem.Spec PyProof.Rows
theorem closure_run {env : Env} : ∀ (names : List (Str × NameKind)) (acc : List (Str × Addr)),
    (∀ x ∈ names, x.2 = .free → ∃ c, env.cells.lookup x.1 = some c) → (∀ y c, acc.lookup y = some c → env.cells.lookup y = some c) →
    ∃ cl : List (Str × Addr), (forIn names acc (fun (x : Str × NameKind) (cs : List (Str × Addr)) =>
        if (x.2 == NameKind.free) = true then do
          let c ← cellOf env x.1
          pure (ForInStep.yield ((x.1, c) :: cs))
        else pure (ForInStep.yield cs)) : Sem (List (Str × Addr))) = pure cl ∧
      (∀ y c, cl.lookup y = some c → env.cells.lookup y = some c) ∧ (∀ y, (acc.lookup y).isSome = true → (cl.lookup y).isSome = true) ∧
      ∀ x ∈ names, x.2 = .free → (cl.lookup x.1).isSome = true
  | [], acc, _, ha => ⟨acc, by rw [List.forIn_nil], ha, fun _ h => h, fun _ h => nomatch h⟩
  | (n, k) :: r, acc, hn, ha => by
    rw [List.forIn_cons]
    by_cases hk : k = .free
    · subst hk
      obtain ⟨c, hc⟩ := hn (n, .free) List.mem_cons_self rfl
      have hc' : env.cells.lookup n = some c := hc
      obtain ⟨cl, e, h1, h2, h3⟩ := closure_run r ((n, c) :: acc) (fun x hx => hn x (List.mem_cons_of_mem _ hx)) (fun y c' h => by
        rw [List.lookup_cons] at h
        cases q : y == n with
        | true => rw [q] at h; cases h; rw [beq_iff_eq.mp q]; exact hc'
        | false => rw [q] at h; exact ha y c' h)
      refine ⟨cl, ?_, h1, fun y hy => h2 y ?_, fun x hx hf => ?_⟩
      · have e0 : cellOf env n = pure c := by unfold cellOf; rw [hc']
        show ((if ((NameKind.free == NameKind.free) = true) then (cellOf env n >>= fun c => pure (ForInStep.yield ((n, c) :: acc))) else pure (ForInStep.yield acc)) >>= _) = _
        rw [if_pos (by decide), e0]
        exact e
      · rw [List.lookup_cons]
        cases q : y == n with
        | true => rfl
        | false => exact hy
      · rcases List.mem_cons.mp hx with rfl | hx
        · exact h2 n (by simp [List.lookup_cons])
        · exact h3 x hx hf
    · obtain ⟨cl, e, h1, h2, h3⟩ := closure_run r acc (fun x hx => hn x (List.mem_cons_of_mem _ hx)) ha
      refine ⟨cl, ?_, h1, h2, fun x hx hf => ?_⟩
      · show ((if ((k == NameKind.free) = true) then (cellOf env n >>= fun c => pure (ForInStep.yield ((n, c) :: acc))) else pure (ForInStep.yield acc)) >>= _) = _
        rw [if_neg (by simpa using hk)]
        exact e
      · rcases List.mem_cons.mp hx with rfl | hx
        · exact absurd hf hk
        · exact h3 x hx hf
theorem closure_for {env : Env} {scope : Scope} (h : ∀ x ∈ scope.names, x.2 = .free → ∃ c, env.cells.lookup x.1 = some c) :
    ∃ cl, closureFor scope env = pure cl ∧ (∀ y c, cl.lookup y = some c → env.cells.lookup y = some c) ∧ ∀ x ∈ scope.names, x.2 = .free → ∃ c, cl.lookup x.1 = some c := by
  obtain ⟨cl, e, h1, _, h3⟩ := closure_run scope.names [] h (fun y c q => by simp at q)
  refine ⟨cl, ?_, h1, fun x hx hf => Option.isSome_iff_exists.mp (h3 x hx hf)⟩
  simp only [closureFor]
  show (forIn scope.names [] _ >>= fun r => pure r) = _
  rw [e]
  rfl
theorem lookup_relabel_free {env : Env} {x : Str} : ∀ {names : List (Str × NameKind)}, names.lookup x = some .free →
    (names.map fun (n, k) => if (k == NameKind.free && env.scope.kind == .function && env.kindOf n == some .cell) then (n, NameKind.cell) else (n, k)).lookup x = some .cell ∨
    (names.map fun (n, k) => if (k == NameKind.free && env.scope.kind == .function && env.kindOf n == some .cell) then (n, NameKind.cell) else (n, k)).lookup x = some .free
  | [], h => by simp at h
  | (n, k) :: r, h => by
    have ih := @lookup_relabel_free env x r
    show List.lookup x ((if (k == NameKind.free && env.scope.kind == .function && env.kindOf n == some .cell) = true then (n, NameKind.cell) else (n, k)) :: _) = _ ∨ List.lookup x ((if (k == NameKind.free && env.scope.kind == .function && env.kindOf n == some .cell) = true then (n, NameKind.cell) else (n, k)) :: _) = _
    cases hx : x == n with
    | true =>
      simp only [List.lookup_cons, hx] at h
      cases h
      by_cases hc : (NameKind.free == NameKind.free && env.scope.kind == .function && env.kindOf n == some .cell) = true
      · rw [if_pos hc]; left; simp only [List.lookup_cons, hx]
      · rw [if_neg hc]; right; simp only [List.lookup_cons, hx]
    | false =>
      simp only [List.lookup_cons, hx] at h
      by_cases hc : (k == NameKind.free && env.scope.kind == .function && env.kindOf n == some .cell) = true
      · rw [if_pos hc]; simp only [List.lookup_cons, hx]; exact ih h
      · rw [if_neg hc]; simp only [List.lookup_cons, hx]; exact ih h
theorem relabel_back {env : Env} {x : Str} {q : NameKind} : ∀ {names : List (Str × NameKind)}, (∀ y ∈ names, y.2 ≠ .cell) → q = .cell ∨ q = .free →
    (names.map fun (n, k) => if (k == NameKind.free && env.scope.kind == .function && env.kindOf n == some .cell) then (n, NameKind.cell) else (n, k)).lookup x = some q → (x, NameKind.free) ∈ names
  | [], _, _, h => by simp at h
  | (n, k) :: r, hn, hq, h => by
    have h : List.lookup x ((if (k == NameKind.free && env.scope.kind == .function && env.kindOf n == some .cell) = true then (n, NameKind.cell) else (n, k)) :: (r.map fun (n, k) => if (k == NameKind.free && env.scope.kind == .function && env.kindOf n == some .cell) then (n, NameKind.cell) else (n, k))) = some q := h
    by_cases hc : (k == NameKind.free && env.scope.kind == .function && env.kindOf n == some .cell) = true
    · rw [if_pos hc] at h
      cases hx : x == n with
      | true =>
        have hk : k = .free := by
          cases k <;> first | rfl | (simp at hc)
        rw [beq_iff_eq.mp hx, hk]
        exact List.mem_cons_self
      | false =>
        simp only [List.lookup_cons, hx] at h
        exact List.mem_cons_of_mem _ (relabel_back (fun y hy => hn y (List.mem_cons_of_mem _ hy)) hq h)
    · rw [if_neg hc] at h
      cases hx : x == n with
      | true =>
        simp only [List.lookup_cons, hx] at h
        have hk : k = q := Option.some.inj h
        have hk2 : k = .free := by
          rcases hq with rfl | rfl
          · exact absurd hk (hn (n, k) List.mem_cons_self)
          · exact hk
        rw [beq_iff_eq.mp hx, hk2]
        exact List.mem_cons_self
      | false =>
        simp only [List.lookup_cons, hx] at h
        exact List.mem_cons_of_mem _ (relabel_back (fun y hy => hn y (List.mem_cons_of_mem _ hy)) hq h)
def cxBlk (X : Cx) (scope : Scope) (cl : List (Str × Addr)) (C : Addr) (N : List Str) (s₀ : Shared) (H₀ : Hp) (fp : List Addr) : Cx :=
  { X with N := N, s₀ := s₀, H₀ := H₀, env := compEnvC scope cl C X.env, outer := X.stack, stack := X.stack, ex := fp, fn := fun _ => false, pn := [], xe := fun _ _ => False }
structure BlkScope (env : Env) (scope : Scope) (x : Str) : Prop where
  kind : scope.kind = .function
  cells : ∀ y ∈ scope.names, y.2 ≠ .cell
  names : ∀ y ∈ scope.names, y.2 = .local → scope.names.lookup y.1 = some .local
  lx : scope.names.lookup x = some .local
  free : ∀ y ∈ scope.names, y.2 = .free → env.kindOf y.1 = some .cell ∨ env.kindOf y.1 = some .free
def bN (N : List Str) (x : Str) (ix : List Nat) : List Str := x :: ix.map fun i => N.getD i Str.empty
def bS (σ : St) (o : Option V) (ix : List Nat) : St := o :: ix.map fun i => (σ[i]?).getD none
def PIfs (X : Cx) (ifs : List Expr) (tt : TT) : Prop :=
  ∀ (pins : List (Addr × Obj)) (s : Shared) (σ : St) (H : Hp) (Q : Bool → Hp → Prop), Inv X pins σ H s → tt σ H Q →
    wpAny (model X.prog X.w) X.A (forIn ifs true fun c r => if r = true then do let ok ← isTrue c X.env (eval c X.env); pure (ForInStep.yield ok) else pure (ForInStep.yield r)) (TP X pins σ Q) X.xe s
def tAll : TT := fun _ H Q => Q true H
theorem pifs_nil {X : Cx} : PIfs X [] tAll := by
  intro pins s σ H Q I h
  rw [List.forIn_nil]
  exact wpAny_pure ⟨H, I, h⟩
theorem pifs_one {X : Cx} {c : Expr} {tt : TT} (h : PT X c tt) : PIfs X [c] tt := by
  intro pins s σ H Q I hw
  rw [List.forIn_cons]
  refine wpAny_bind ?_
  rw [if_pos rfl]
  refine wpAny_bind (thn (h pins s σ H _ I hw) fun ok s1 q => wpAny_pure ?_)
  show wpAny _ _ (forIn [] ok _) _ _ s1
  rw [List.forIn_nil]
  exact wpAny_pure q
section
variable {X : Cx}
theorem blk_ok {pins : List (Addr × Obj)} {σ : St} {H : Hp} {s : Shared} {scope : Scope} {cl : List (Str × Addr)} {C : Addr} {N : List Str} {fp : List Addr} {x : Str} (I : Inv X pins σ H s) (B : BlkScope X.env scope x)
    (h1 : ∀ y c, cl.lookup y = some c → X.env.cells.lookup y = some c) (h3 : ∀ y ∈ scope.names, y.2 = .free → ∃ c, cl.lookup y.1 = some c) (hC : s.heap.objs.size ≤ C) (hf : ∀ b ∈ fp, FpOk X pins H b) (hl : ∀ b ∈ fp, b < s.heap.objs.size) :
    (cxBlk X scope cl C N s H fp).Ok where
  mod := I.ok.mod
  kind := by show (relabel scope X.env).kind = _; exact B.kind
  glob := I.ok.glob
  blt := I.ok.blt
  above := hC
  inj := fun y z c q r => I.ok.inj y z c (h1 y c q) (h1 z c r)
  has := fun y hy => by
    have hy : (relabel scope X.env).names.lookup y = some .cell ∨ (relabel scope X.env).names.lookup y = some .free := hy
    have m : (y, NameKind.free) ∈ scope.names := by
      rcases hy with q | q
      · exact relabel_back B.cells (.inl rfl) q
      · exact relabel_back B.cells (.inr rfl) q
    exact h3 _ m rfl
  cab := fun y c q => by cases (show false = true from q)
  hd := I.ok.hd
  frames := I.ok.frames
  stk := .inl rfl
  exf := fun b hb => ⟨Nat.ne_of_lt (Nat.lt_of_lt_of_le (hl b hb) hC), fun y c q => (hf b hb).2.2.2.2.1 y c (h1 y c q)⟩
  bs := I.bs
  bsz := Nat.le_trans I.ok.bsz I.sz
  noex := fun b o e hb => by
    rcases (hf b hb).2.2.2.1 with z | z
    · exact I.ok.noex b o e z
    · exact absurd (Nat.lt_of_lt_of_le (Heap.lt_size e) (Nat.le_trans I.ok.bsz z)) (Nat.lt_irrefl _)
  exfs := fun b hb z => by
    have z' := I.stkSub b z
    rcases List.mem_cons.mp z' with q | q
    · exact (hf b hb).2.1 q
    · exact (hf b hb).2.2.1 q
  funs := I.stack
  frf := I.stkFree
theorem HOk.add {P : Program} {w : World} {H : Hp} {h : Heap} {a : Addr} {o : HO} (x : HOk P w H h) (hn : H a = none) (new : ObjOk P w (upd H a o) h a o) : HOk P w (upd H a o) h := fun b u e => by
  by_cases hb : b = a
  · subst hb; rw [upd_same] at e; cases e; exact new
  · rw [upd_ne hb] at e
    exact (x b u e).stay (fun c v _ q => q) (fun c q => by rw [upd_ne (ne_of_none q hn)]; exact q) fun c xs q => by rw [upd_ne (ne_of_none q hn)]; exact q
theorem Un.add {fs ex : List Addr} {H H' : Hp} {h h' : Heap} {a : Addr} {o : HO} (u : Un fs ex H H' h h') (hn : h.get? a = none) (hH : H a = none) : Un fs ex H (upd H' a o) h h' where
  keep := u.keep
  slot := u.slot
  free := fun b ob e n hx => by
    have : b ≠ a := fun z => by rw [z, hn] at e; cases e
    rw [upd_ne this]; exact u.free b ob e n hx
  there := u.there
  tups := fun b xs e => by rw [upd_ne (ne_of_none e hH)]; exact u.tups b xs e
  frzs := fun b ob w e => by rw [upd_ne (ne_of_none e hH)]; exact u.frzs b ob w e
  tbls := fun b ps e => by rw [upd_ne (ne_of_none e hH)]; exact u.tbls b ps e
end
end L2
set_option Elab.async false
set_option linter.all false
set_option maxRecDepth 100000
set_option maxHeartbeats 4000000
namespace L2
open PySem PySem.Spec PyProof.Rows
section
variable {X : Cx}
theorem comp_blk {elt iter : Expr} {x : Str} {px pos : Pos} {scope : Scope} {te : TE} {tt : TT} {ifs : List Expr} {ix : List Nat} {pins : List (Addr × Obj)} {s : Shared} {σ : St} {H : Hp} {cl : List (Str × Addr)}
    {J : It} {fp : List Addr} {it : Addr} {tn : Nat → Heap → Prop} {E : Value → Shared → Prop} {RR : Value → Addr → Result → Shared → Prop} {G : List V → Hp → Prop}
    (I : Inv X pins σ H s) (hc : X.calm = true) (B : BlkScope X.env scope x) (h1 : ∀ y c, cl.lookup y = some c → X.env.cells.lookup y = some c) (h3 : ∀ y ∈ scope.names, y.2 = .free → ∃ c, cl.lookup y.1 = some c)
    (hix : ∀ i ∈ ix, ∃ y, X.N[i]? = some y ∧ scope.names.lookup y = some .free) (hN : (bN X.N x ix).Nodup)
    (T : Turn X.prog X.w X.K (.Name x px) J fp it tn) (st : tn 0 s.heap) (hf : ∀ b ∈ fp, FpOk X pins H b)
    (he : ∀ cl C s₀ H₀ fp, PE (cxBlk X scope cl C (bN X.N x ix) s₀ H₀ fp) elt te)
    (hi : ∀ cl C s₀ H₀ fp, PIfs (cxBlk X scope cl C (bN X.N x ix) s₀ H₀ fp) ifs tt)
    (W : Nat → Nat → List V → Hp → Prop) (m₀ : Nat) (w0 : W 0 m₀ [] H)
    (turn : ∀ i m ys H, W i m ys H → (J.stop i H ∧ ys.length ≤ sizeLine ∧ G ys H) ∨ (J.go i H ∧ ys.length < sizeLine ∧ ∀ v H', J.yld i H v H' →
        tt (bS σ (some v) ix) H' fun b H1 => if b = true then te (bS σ (some v) ix) H1 fun y H2 => ∃ m', m' < m ∧ W (i + 1) m' (ys ++ [y]) H2 else ∃ m', m' < m ∧ W (i + 1) m' ys H1))
    (hRR : ∀ D C s' ys H', Inv X pins σ (upd H' D (.lst ys)) s' → H' D = none → H' C = none → (∃ m, s'.heap.Ns C m) → s.heap.objs.size ≤ C → D ≠ C → G ys H' → RR (.ref D) C (.ok .next) s') :
    wpAny (model X.prog X.w) X.A (newList []) (fun acc s₃ => wpAny (model X.prog X.w) X.A (newFunctionEnv scope X.env.globals cl [] X.env.qual none .none (some X.env)) (fun cenv s₄ =>
      codeAny (model X.prog X.w) X.A (.compStart (.ListComp elt [⟨.Name x px, iter, ifs, 0⟩] scope pos) 0 (.ref it) acc { cenv with scope := relabel scope X.env }) (RR acc cenv.locals) s₄) E s₃) E s := by
  have hl : ∀ b ∈ fp, b < s.heap.objs.size := fun b hb => by obtain ⟨o, e, _⟩ := T.obj 0 _ st b hb; exact Heap.lt_size e
  refine wpAny_newObj_type (wpAny_newFunctionEnv B.cells (by intro y hy; simp at hy) (fun h₁ hns₁ hsb₁ => ?_) B.kind)
  dsimp only at hns₁ hsb₁ ⊢
  generalize hH2 : s.heap.push { cls := .type "list", dict := none, data := .seq ([] : List Value).toArray } = H2 at hns₁ hsb₁ ⊢
  have hC : H2.objs.size = s.heap.objs.size + 1 := by rw [← hH2, Heap.size_push]
  generalize hD : s.heap.objs.size = D at hC hl hRR ⊢
  generalize hCC : H2.objs.size = C at hC hns₁ hsb₁ ⊢
  have hDC : D ≠ C := by omega
  have old : ∀ b o, s.heap.get? b = some o → h₁.get? b = some o := fun b o e => hsb₁.extBut b o (Nat.ne_of_lt (by have z := Heap.lt_size e; rw [hD] at z; exact Nat.lt_of_lt_of_le z (by rw [hC]; exact Nat.le_succ _))) (Heap.get?_push_of_some _ (hH2 ▸ Heap.get?_push_of_some _ e))
  have hacc : h₁.get? D = some { cls := .type "list", data := .seq ([] : List Value).toArray 0 } := hsb₁.extBut _ _ hDC (Heap.get?_push_of_some _ (hH2 ▸ (by rw [← hD]; exact Heap.get?_push_size _ rfl)))
  have hfr : ∀ a, D ≤ a → s.heap.get? a = none := fun a ha => by
    cases e : s.heap.get? a with
    | none => rfl
    | some o => exact absurd (Heap.lt_size e) (by rw [hD]; exact Nat.not_lt.mpr ha)
  have hHn : ∀ a, D ≤ a → H a = none := fun a ha => I.hok.fresh (by omega)
  have ok : (cxBlk X scope cl C (bN X.N x ix) s H fp).Ok := blk_ok I B h1 h3 (by omega) hf (by rw [hD]; exact hl)
  generalize hK : cxBlk X scope cl C (bN X.N x ix) s H fp = K at ok
  have kp : K.prog = X.prog := by rw [← hK]; rfl
  have kw : K.w = X.w := by rw [← hK]; rfl
  have kK : K.K = X.K := by rw [← hK]; rfl
  have kA : K.A = X.A := by rw [← hK]; rfl
  have kc : K.calm = true := by rw [← hK]; exact hc
  have kN : K.N = bN X.N x ix := by rw [← hK]; rfl
  have kenv : K.env = compEnvC scope cl C X.env := by rw [← hK]; rfl
  have kloc : K.env.locals = C := by rw [← hK]; rfl
  have kfs : K.fs = frs X.stack := by rw [← hK]; rfl
  have kex : K.ex = fp := by rw [← hK]; rfl
  have kpn : K.pn = [] := by rw [← hK]; rfl
  have ks : K.s₀ = s := by rw [← hK]; rfl
  have kH : K.H₀ = H := by rw [← hK]; rfl
  have kx : K.xe = fun _ _ => False := by rw [← hK]; rfl
  have kcl : K.env.cells = cl := by rw [← hK]; rfl
  have cellLt : ∀ y c, cl.lookup y = some c → c < D := fun y c q => by obtain ⟨v, z⟩ := I.cell y c (h1 y c q); rw [← hD]; exact z.lt
  have stkLt : ∀ b ∈ frs X.stack, b < D := fun b hb => by
    rcases List.mem_cons.mp (I.stkSub b hb) with q | q
    · rw [q, ← hD]; exact I.lt
    · rcases Nat.lt_or_ge b D with z | z
      · exact z
      · exact absurd q (I.nofs (by omega))
  -- the state at the block's begin
  have I0 : ∀ tk, Inv K [(D, { cls := .type "list", data := .seq ([] : List Value).toArray 0 })] (bS σ none ix) H { s with heap := h₁, toks := tk } := fun tk => by
    refine ⟨ok, by rw [ks], I.bare, by rw [ks, kH]; exact Un.kept old, ?_, ?_, ?_, ?_, ?_, by rw [kp, kw]; exact I.hok.kept old, ?_⟩
    · refine ⟨_, by rw [kloc]; exact hns₁, fun i y v e1 e2 e3 => ?_⟩
      rw [kN] at e1
      cases i with
      | zero =>
        have : (none : Option V) = some v := by simpa [bS] using e2
        cases this
      | succ i =>
        have e1' : (ix.map fun i => X.N.getD i Str.empty)[i]? = some y := by simpa [bN] using e1
        have e2' : (ix.map fun i => (σ[i]?).getD none)[i]? = some (some v) := by simpa [bS] using e2
        rw [List.getElem?_map] at e1' e2'
        cases q : ix[i]? with
        | none => rw [q] at e1'; cases e1'
        | some j =>
          rw [q] at e1' e2'
          obtain ⟨y', a1, a2⟩ := hix j (List.mem_of_getElem? q)
          have a3 : X.N.getD j Str.empty = y' := by simp [List.getD, a1]
          have ey : y' = y := by rw [← a3]; exact Option.some.inj e1'
          subst ey
          have es : σ[j]? = some (some v) := by
            have z : (σ[j]?).getD none = some v := Option.some.inj e2'
            cases w : σ[j]? with
            | none => rw [w] at z; cases z
            | some o => rw [w] at z; have z' : o = some v := z; rw [z']
          obtain ⟨m, hn, hlk⟩ := I.loc
          have hk := B.free (y', .free) (PySem.mem_of_lookup a2) rfl
          have hk : X.env.kindOf y' = some .cell ∨ X.env.kindOf y' = some .free := hk
          have vis : Vis X.env.scope y' := hk.elim (fun z => .inr (.inl z)) fun z => .inr (.inr z)
          obtain ⟨u, ru, lk⟩ := hlk j y' v a1 es vis
          refine ⟨u, ru, ?_⟩
          rcases lk with ⟨k, _⟩ | ⟨_, c, ec, ce⟩
          · rcases hk with z | z <;> (rw [k] at z; cases z)
          · obtain ⟨c', ec'⟩ := h3 (y', .free) (PySem.mem_of_lookup a2) rfl
            have ec' : cl.lookup y' = some c' := ec'
            have : c' = c := Option.some.inj ((h1 y' c' ec').symm.trans ec)
            subst this
            refine .inr ⟨?_, c', by rw [kcl]; exact ec', ?_⟩
            · show K.env.scope.names.lookup y' = _ ∨ K.env.scope.names.lookup y' = _
              rw [kenv]
              exact lookup_relabel_free a2
            · obtain ⟨oc, hoc, r⟩ := ce
              exact ⟨oc, old _ _ hoc, r⟩
    · intro y c q
      rw [kcl] at q
      obtain ⟨v, oc, hoc, r⟩ := I.cell y c (h1 y c q)
      exact ⟨v, oc, old _ _ hoc, r⟩
    · rw [kloc]; exact hHn _ (by omega)
    · intro y c q
      rw [kcl] at q
      exact I.freeC y c (h1 y c q)
    · intro p hp
      rw [kpn] at hp
      have e : p = (D, { cls := .type "list", data := .seq ([] : List Value).toArray 0 }) := by simpa using hp
      subst e
      refine ⟨hacc, hHn _ (Nat.le_refl _), by rw [kloc]; exact hDC, ?_, fun v z => ?_⟩
      · rw [kfs]; intro z; exact absurd (stkLt D z) (Nat.lt_irrefl _)
      · have z' : Data.seq _ _ = Data.cell v := z
        cases z'
    · rw [kN]; simp [bS, bN]
  have stat : ∀ {H' : Hp} {ob : Obj}, (∀ b ∈ fp, H' b = none) → ∀ b ∈ fp, FpOk K [(D, ob)] H' b := fun {H' ob} hn b hb => by
    refine ⟨hn b hb, ?_, ?_, .inl (by rw [kex]; exact hb), ?_, ?_⟩
    · rw [kloc]; exact Nat.ne_of_lt (Nat.lt_of_lt_of_le (hl b hb) (by rw [hC]; exact Nat.le_succ _))
    · rw [kfs]; intro z
      rcases List.mem_cons.mp (I.stkSub b z) with q | q
      · exact (hf b hb).2.1 q
      · exact (hf b hb).2.2.1 q
    · intro y c q; rw [kcl] at q; exact (hf b hb).2.2.2.2.1 y c (h1 y c q)
    · intro p hp; rw [kpn] at hp
      have e : p = (D, ob) := by simpa using hp
      subst e
      exact Nat.ne_of_gt (hl b hb)
  have st₁ : tn 0 h₁ := T.keep _ _ _ st fun b hb o e => old b o e
  have loop : ∀ tk, codeAny (model X.prog X.w) X.A (.compLoop (.ListComp elt [⟨.Name x px, iter, ifs, 0⟩] scope pos) 0 (.ref it) (.ref D) (compEnvC scope cl C X.env)) (RR (.ref D) C) { s with heap := h₁, toks := tk } := by
    intro tk
    refine codeAny_compLoop_tests (fun n s' => ∃ i o H' ys its c, Inv K [(D, { cls := .type "list", data := .seq (its : List Value).toArray c })] (bS σ o ix) H' s' ∧ Vals ys its ∧ tn i s'.heap ∧ (∀ b ∈ fp, H' b = none) ∧ W i n ys H') ?_ m₀
      ⟨0, none, H, [], [], 0, I0 tk, .nil, st₁, fun b hb => (hf b hb).1, w0⟩
    rintro n s1 ⟨i, o, H1, ys, its, c, I1, rv, t1, f1, w1⟩
    rcases turn i n ys H1 w1 with ⟨stop, hz, g⟩ | ⟨go, hz, step⟩
    · have dn := T.done K kp kw kK kc i _ s1 _ H1 (notedBy (model X.prog X.w) X.A (compEnvC scope cl C X.env) fun e s' => RR (.ref D) C (.error e) s') I1 (stat f1) t1 stop
      rw [kA] at dn
      refine thn dn fun r s2 ⟨hr, I2⟩ => ?_
      subst hr
      obtain ⟨p1, p2, p3, p4, p5⟩ := I2.pin (D, { cls := .type "list", data := .seq its.toArray c }) (List.mem_append_right _ (List.mem_singleton.mpr rfl))
      have u2 := I2.base
      rw [kfs, kex, kH, ks] at u2
      refine hRR D C s2 ys H1 ?_ p2 (by rw [← kloc]; exact I2.free) (by obtain ⟨m, hm, _⟩ := I2.loc; rw [kloc] at hm; exact ⟨m, hm⟩) (by omega) hDC g
      have hk2 : HOk X.prog X.w H1 s2.heap := by have := I2.hok; rw [kp, kw] at this; exact this
      refine I.call' (ch := fp) (by have := I2.os; rw [ks] at this; exact this) (u2.add (hfr D (Nat.le_refl _)) (hHn D (Nat.le_refl _))) (hk2.add p2 ⟨hz, its, c, rv, p1⟩) I2.bare fun b hb => ?_
      exact ⟨(hf b hb).2.2.2.1, (hf b hb).2.1, (hf b hb).2.2.2.2.1, (hf b hb).2.2.2.2.2⟩
    · have im := T.item K kp kw kK kc i _ s1 _ H1 (notedBy (model X.prog X.w) X.A (compEnvC scope cl C X.env) fun e s' => RR (.ref D) C (.error e) s') I1 (stat f1) t1 go
      rw [kA] at im
      refine thn im fun r s2 ⟨u, hr, h2⟩ => ?_
      subst hr
      show wpAny _ _ (assign (.Name x px) (compEnvC scope cl C X.env) u) _ _ s2
      have h2' : wpAny (model X.prog X.w) X.A (pure () : Sem Unit) _ _ s2 := h2
      suffices q : wpAny (model X.prog X.w) X.A ((pure () : Sem Unit) >>= fun _ => assign (.Name x px) (compEnvC scope cl C X.env) u) _ _ s2 from q
      refine wpAny_bind (thn h2' fun _ s3 ⟨v, H3, I3, r3, y3, t3, f3⟩ => ?_)
      have q3 := step v H3 y3
      have I3' := I3.pinned (stat f3) (T.obj _ _ t3)
      rw [← kenv]
      refine wpAny_assign_Name (store_ok I3' (i := 0) (x := x) (by rw [kN]; exact hN) (by rw [kN]; rfl) (.inl (by rw [kenv]; exact lookup_relabel_local B.lx)) r3 (fun s4 I4 => ?_) (.inr (by rw [kenv]; exact lookup_relabel_local B.lx)))
      have I4 : Inv K ([(D, { cls := .type "list", data := .seq its.toArray c })] ++ pinsAt fp s3.heap) (bS σ (some v) ix) H3 s4 := I4
      have hi' := hi cl C s H fp
      rw [hK] at hi'
      have hiv := hi' _ s4 _ H3 _ I4 q3
      rw [kx, kp, kw, kA] at hiv
      refine wpAny_mono hiv (fun ok s5 ⟨H5, I5, q5⟩ => ?_) fun _ _ z => z.elim
      have back : ∀ {H7 : Hp} {s7 : Shared} {o7 : Option V}, Inv K ([(D, { cls := .type "list", data := .seq its.toArray c })] ++ pinsAt fp s3.heap) (bS σ o7 ix) H7 s7 → tn (i + 1) s7.heap ∧ ∀ b ∈ fp, H7 b = none := fun {H7 s7 o7} I7 => by
        refine ⟨T.keep _ _ _ t3 fun b hb o e => (I7.pin (b, o) (List.mem_append_right _ (List.mem_append_right _ (mem_pinsAt hb e)))).1, fun b hb => ?_⟩
        obtain ⟨ob, e, d⟩ := T.obj _ _ t3 b hb
        exact (I7.pin (b, ob) (List.mem_append_right _ (List.mem_append_right _ (mem_pinsAt hb e)))).2.1
      cases ok with
      | false =>
        rw [if_neg Bool.false_ne_true]
        have q5 : ∃ m', m' < n ∧ W (i + 1) m' ys H5 := q5
        obtain ⟨m', hm, w5⟩ := q5
        obtain ⟨b1, b2⟩ := back I5
        exact ⟨m', hm, i + 1, some v, H5, ys, its, c, I5.unpinned, rv, b1, b2, w5⟩
      | true =>
        rw [if_pos rfl]
        have q5 : te (bS σ (some v) ix) H5 fun y H2 => ∃ m', m' < n ∧ W (i + 1) m' (ys ++ [y]) H2 := q5
        have he' := he cl C s H fp
        rw [hK] at he'
        have hev := he' _ s5 _ H5 _ I5 q5
        rw [kx, kp, kw, kA] at hev
        refine wpAny_mono hev (fun y s6 ⟨yv, H6, I6, r6, m', hm, w6⟩ => ?_) fun _ _ z => z.elim
        obtain ⟨b1, b2⟩ := back I6
        have I6' := I6.unpinned
        obtain ⟨p1, p2, p3, p4, p5⟩ := I6'.pin (D, { cls := .type "list", data := .seq its.toArray c }) (List.mem_append_right _ (List.mem_singleton.mpr rfl))
        have hlen := rv.length
        refine call_meets F.slot_list_append ⟨_, p1, rfl⟩ F.entry_list_append (F.args_list_append_2 _ _) (PySem.list_append D its.toArray c y (by rw [List.size_toArray]; omega)) ⟨p1, ?_⟩
        have ea : its.toArray.push y = (its ++ [y]).toArray := by simp
        obtain ⟨c', q⟩ : ∃ c', (s6.heap.update D (Obj.mapSeq (·.push y))).get? D = some { cls := .type "list", data := .seq (its ++ [y]).toArray c' } := ⟨_, by rw [← ea]; exact PySem.IsL.update p1 (·.push y)⟩
        refine ⟨m', hm, i + 1, some v, H6, ys ++ [yv], its ++ [y], c', ?_, rv.append (.cons r6 .nil), T.keep _ _ _ b1 fun b hb o e => ?_, b2, w6⟩
        · have Id : Inv K [] (bS σ (some v) ix) H6 s6 := I6'.pins_of fun p hp => by simp at hp
          have It : Inv K [] (bS σ (some v) ix) H6 { s6 with heap := s6.heap.update D (Obj.mapSeq (·.push y)) } := Id.turned (t' := s6.toks) (it := D) (fun b o hb e => (Heap.get?_update_other _ _ (Ne.symm hb)).trans e) p2 p3
            (.inr (by rw [ks]; omega)) (fun y' c' e => by rw [kcl] at e; exact Nat.ne_of_lt (cellLt y' c' e)) (fun p hp => by rw [kpn] at hp; simp at hp)
          refine It.pins_of fun p hp => ?_
          obtain rfl : p = (D, { cls := .type "list", data := .seq (its ++ [y]).toArray c' }) := by simpa using hp
          refine ⟨q, p2, p3, p4, fun v z => ?_⟩
          have z' : Data.seq _ _ = Data.cell v := z
          cases z'
        · exact (Heap.get?_update_other _ _ (Nat.ne_of_gt (hl b hb))).trans e
  have selfs : wpAny (model X.prog X.w) X.A (pyIter (.ref it)) (fun it' s' => codeAny (model X.prog X.w) X.A (.compLoop (.ListComp elt [⟨.Name x px, iter, ifs, 0⟩] scope pos) 0 it' (.ref D) (compEnvC scope cl C X.env)) (RR (.ref D) C) s')
      (notedBy (model X.prog X.w) X.A (compEnvC scope cl C X.env) fun e s' => RR (.ref D) C (.error e) s') { s with heap := h₁, toks := s.toks + ([] : List (Str × Value)).length } := T.self X.A 0 _ _ _ st₁ (loop _)
  exact codeAny_compStart_list (loop _) selfs
def tComp (wi : TI) (tt : TT) (te : TE) (ix : List Nat) : TE := fun σ H Q => wi σ H fun J H1 => ∃ (W : Nat → Nat → List V → Hp → Prop) (m₀ : Nat), W 0 m₀ [] H1 ∧
  ∀ i m ys H, W i m ys H → (J.stop i H ∧ ys.length ≤ sizeLine ∧ ∀ l, H l = none → Q (.ref l) (upd H l (.lst ys))) ∨ (J.go i H ∧ ys.length < sizeLine ∧ ∀ v H', J.yld i H v H' →
    tt (bS σ (some v) ix) H' fun b H1 => if b = true then te (bS σ (some v) ix) H1 fun y H2 => ∃ m', m' < m ∧ W (i + 1) m' (ys ++ [y]) H2 else ∃ m', m' < m ∧ W (i + 1) m' ys H1)
theorem blk_free {scope : Scope} {x : Str} {pins : List (Addr × Obj)} {σ : St} {H : Hp} {s : Shared} (I : Inv X pins σ H s) (B : BlkScope X.env scope x) : ∀ y ∈ scope.names, y.2 = .free → ∃ c, X.env.cells.lookup y.1 = some c :=
  fun y hy hf => I.ok.has y.1 (B.free y hy hf)
theorem Inv.blkGone {pins : List (Addr × Obj)} {σ : St} {H : Hp} {s s₀ : Shared} {H₀ : Hp} {C : Addr} {h' : Heap} {σ₀ : St} (I₀ : Inv X pins σ₀ H₀ s₀) (I : Inv X pins σ H s) (hC : s₀.heap.objs.size ≤ C) (hn : H C = none) (hs : Heap.SameBut C s.heap h') : Inv X pins σ H { s with heap := h' } :=
  I.turned (t' := s.toks) (it := C) (fun b o hb e => (hs.2 b hb).trans e) hn (Nat.ne_of_gt (Nat.lt_of_lt_of_le I₀.lt hC)) (.inr (Nat.le_trans I₀.sz hC))
    (fun x c e => by obtain ⟨v, z⟩ := I₀.cell x c e; exact Nat.ne_of_lt (Nat.lt_of_lt_of_le z.lt hC)) (fun p hp => Nat.ne_of_lt (Nat.lt_of_lt_of_le (Heap.lt_size (I₀.pin p hp).1) hC))
theorem pe_comp {elt iter : Expr} {x : Str} {px pos : Pos} {scope : Scope} {te : TE} {tt : TT} {wi : TI} {ifs : List Expr} (ix : List Nat) (hc : X.calm = true) (B : BlkScope X.env scope x)
    (hix : ∀ i ∈ ix, ∃ y, X.N[i]? = some y ∧ scope.names.lookup y = some .free) (hN : (bN X.N x ix).Nodup) (hi : PI X (.Name x px) iter wi)
    (ht : ∀ cl C s₀ H₀ fp, PIfs (cxBlk X scope cl C (bN X.N x ix) s₀ H₀ fp) ifs tt)
    (he : ∀ cl C s₀ H₀ fp, PE (cxBlk X scope cl C (bN X.N x ix) s₀ H₀ fp) elt te)
    (hs : ∀ x, foldedSetIterable iter X.env x = pure x := by intro _; rfl) :
    PE X (.ListComp elt [⟨.Name x px, iter, ifs, 0⟩] scope pos) (tComp wi tt te ix) := by
  intro pins s σ H Q I h
  obtain ⟨cl, hcl, h1, h3⟩ := closure_for (blk_free I B)
  rw [eval_ListComp]
  refine wpAny_comprehension_free (use := none) rfl hs hcl B.kind B.names (thn (hi pins s σ H _ I h) fun v s1 h1' => thn h1' fun itv s2 h2 => ?_)
  obtain ⟨it, fp, tn, J, H2, e, I2, T, st2, f2, W, m0, w0, turn⟩ := h2
  subst e
  refine comp_blk (G := fun ys H' => ∀ l, H' l = none → Q (.ref l) (upd H' l (.lst ys))) I2 hc B h1 h3 hix hN T st2 f2 he ht W m0 w0 turn fun D C s' ys H' I' hD hC hm hCs hDC g => ?_
  obtain ⟨m, hm⟩ := hm
  refine ⟨m, hm, fun h' hsb => ⟨.ref D, upd H' D (.lst ys), I2.blkGone I' hCs (by rw [upd_ne (Ne.symm hDC)]; exact hC) hsb, rfl, g D hD⟩⟩
theorem ps_comp {elt iter : Expr} {x y : Str} {px py pos spos : Pos} {scope : Scope} {te : TE} {tt : TT} {wi : TI} {ifs : List Expr} {j : Nat} (ix : List Nat) (hc : X.calm = true) (B : BlkScope X.env scope x)
    (hNd : X.N.Nodup) (hj : X.N[j]? = some y) (hy : Loc X.env.scope y)
    (hsw : swapsWith (.ListComp elt [⟨.Name x px, iter, ifs, 0⟩] scope pos) (some (.Name y py)) spos.line X.env = pure true)
    (hix : ∀ i ∈ ix, ∃ y, X.N[i]? = some y ∧ scope.names.lookup y = some .free) (hN : (bN X.N x ix).Nodup) (hi : PI X (.Name x px) iter wi)
    (ht : ∀ cl C s₀ H₀ fp, PIfs (cxBlk X scope cl C (bN X.N x ix) s₀ H₀ fp) ifs tt)
    (he : ∀ cl C s₀ H₀ fp, PE (cxBlk X scope cl C (bN X.N x ix) s₀ H₀ fp) elt te)
    (hf : X.fn y = true ∨ X.env.scope.names.lookup y = some .local := by first | exact .inl rfl | exact .inr rfl | assumption)
    (hs : ∀ x, foldedSetIterable iter X.env x = pure x := by intro _; rfl) :
    PS X (.Assign [.Name y py] (.ListComp elt [⟨.Name x px, iter, ifs, 0⟩] scope pos) spos) (tAsg (tComp wi tt te ix) (gName j)) := by
  intro pins s σ H D0 I h
  obtain ⟨cl, hcl, h1, h3⟩ := closure_for (blk_free I B)
  rw [exec_Assign_Name_used _ _ _ _ hsw]
  refine wpAny_bind (wpAny_standAt (wpAny_bind ?_))
  show wpAny _ X.A (do let _ ← comprehension (.ListComp elt [⟨.Name x px, iter, ifs, 0⟩] scope pos) scope X.env _ (newList []) false (eval iter X.env) (some (assign (.Name y py) X.env))) _ _ s
  refine wpAny_bind (wpAny_mono (wpAny_comprehension_free (use := some (assign (.Name y py) X.env)) (Q := fun _ s' => SP X pins D0 .next s') rfl hs hcl B.kind B.names
    (thn (hi pins s σ H _ I h) fun v s1 h1' => thn h1' fun itv s2 h2 => ?_)) (fun _ s' hq => wpAny_pure (wpAny_pure hq)) fun _ _ e => e)
  obtain ⟨it, fp, tn, J, H2, e, I2, T, st2, f2, W, m0, w0, turn⟩ := h2
  subst e
  refine comp_blk (G := fun ys H' => ∀ l, H' l = none → gName j (.ref l) σ (upd H' l (.lst ys)) D0.nx) I2 hc B h1 h3 hix hN T st2 f2 he ht W m0 w0 turn fun D C s' ys H' I' hD hC hm hCs hDC g => ?_
  obtain ⟨m, hm⟩ := hm
  have hCn : upd H' D (.lst ys) C = none := by rw [upd_ne (Ne.symm hDC)]; exact hC
  show wpAny _ _ (assign (.Name y py) X.env (.ref D)) _ _ s'
  refine wpAny_assign_Name (store_ok2 I' hNd hj hy (show RelV (.ref D) (.ref D) from rfl) (fun s3 I3 ⟨a, hsa, ha⟩ => ?_) hf)
  have hCa : C ≠ a := by
    rcases ha with z | z
    · rw [z]; exact Nat.ne_of_gt (Nat.lt_of_lt_of_le I2.lt hCs)
    · obtain ⟨v, q⟩ := I2.cell y a z; exact Nat.ne_of_gt (Nat.lt_of_lt_of_le q.lt hCs)
  exact ⟨m, hm.sameBut hsa hCa, fun h' hsb => ⟨_, _, I2.blkGone I3 hCs hCn hsb, g D hD⟩⟩
end
end L2
set_option Elab.async false
set_option linter.all false
set_option maxRecDepth 100000
set_option maxHeartbeats 4000000
namespace L2
open PySem PySem.Spec PyProof.Rows
section
variable {X : Cx}
theorem Inv.turnNew {pins : List (Addr × Obj)} {σ : St} {H : Hp} {s : Shared} {ch : List Addr} {T : Addr} {o : HO} {h' : Heap} {t' : Nat} (I : Inv X pins σ H s) (hT : s.heap.objs.size ≤ T)
    (k : ∀ b u, b ∉ ch → s.heap.get? b = some u → h'.get? b = some u) (hch : ∀ b ∈ ch, FpOk X pins H b) (new : ObjOk X.prog X.w (upd H T o) h' T o) : Inv X pins σ (upd H T o) { s with heap := h', toks := t' } := by
  have hn : H T = none := I.hok.fresh hT
  have hg : s.heap.get? T = none := by
    cases e : s.heap.get? T with
    | none => rfl
    | some u => exact absurd (Heap.lt_size e) (Nat.not_lt.mpr hT)
  have u : Un (frs X.stack) ch H H s.heap h' := ⟨fun b q e _ _ hx => k b q hx e, fun b q e _ _ hx => ⟨q.slots, k b q hx e⟩, fun b q e n _ => n, fun b q e hx => ⟨q, k b q hx e⟩, fun _ _ e => e, fun _ _ _ e => e, fun b ps e => ⟨#[], by rw [Array.append_empty]; exact e⟩⟩
  have hok : HOk X.prog X.w H h' := fun b q e => (I.hok b q e).stay (fun c v hc z => k c v (fun m => by
    have q1 := (hch c m).1
    rcases hc with rfl | hc
    · rw [q1] at e; cases e
    · rw [q1] at hc; cases hc) z) (fun _ z => z) fun _ _ z => z
  exact I.call' (s' := { s with heap := h', toks := t' }) rfl (u.add hg hn) (hok.add hn new) I.bare fun b hb => ⟨(hch b hb).2.2.2.1, (hch b hb).2.1, (hch b hb).2.2.2.2.1, (hch b hb).2.2.2.2.2⟩
theorem Inv.turnAll {pins : List (Addr × Obj)} {σ : St} {H : Hp} {s : Shared} {ch : List Addr} {h' : Heap} {t' : Nat} (I : Inv X pins σ H s)
    (k : ∀ b u, b ∉ ch → s.heap.get? b = some u → h'.get? b = some u) (hch : ∀ b ∈ ch, FpOk X pins H b) : Inv X pins σ H { s with heap := h', toks := t' } := by
  have u : Un (frs X.stack) ch H H s.heap h' := ⟨fun b q e _ _ hx => k b q hx e, fun b q e _ _ hx => ⟨q.slots, k b q hx e⟩, fun b q e n _ => n, fun b q e hx => ⟨q, k b q hx e⟩, fun _ _ e => e, fun _ _ _ e => e, fun b ps e => ⟨#[], by rw [Array.append_empty]; exact e⟩⟩
  have hok : HOk X.prog X.w H h' := fun b q e => (I.hok b q e).stay (fun c v hc z => k c v (fun m => by
    have q1 := (hch c m).1
    rcases hc with rfl | hc
    · rw [q1] at e; cases e
    · rw [q1] at hc; cases hc) z) (fun _ z => z) fun _ _ z => z
  exact I.call' (s' := { s with heap := h', toks := t' }) rfl u hok I.bare fun b hb => ⟨(hch b hb).2.2.2.1, (hch b hb).2.1, (hch b hb).2.2.2.2.1, (hch b hb).2.2.2.2.2⟩
end
section
variable {prog : Program} {w : World} {A : Around} {E : Value → Shared → Prop} {s : Shared}
theorem tupNext {it t : Addr} {i : Nat} {items : Array Value} {x : Value} {Q : Value → Shared → Prop} (hit : s.heap.IsTupleIter it t i) (ht : s.heap.IsTuple t items) (hx : items[i]? = some x)
    (hQ : ∀ h', h'.IsTupleIter it t (i + 1) → Heap.SameBut it s.heap h' → Q x { s with heap := h' }) : wpAny (model prog w) A (Builtin.SmallTypes.nextOf (.ref it)) Q E s := by
  obtain ⟨o, ho, hc, hd⟩ := id hit
  obtain ⟨ol, hol, _, nl, hdl⟩ := ht
  unfold Builtin.SmallTypes.nextOf
  refine wpAny_bind (wpAny_callSpecial?_slot (name := Str.ofString "__next__") hit.typeIs F.slot_tuple_iterator_next (wpAny_call_entry F.slot_tuple_iterator_next hit.typeIs F.entry_tuple_iterator_next ?_ (F.args_tuple_iterator_next_1 _)))
  show wpAny _ _ (field (.ref it) 0 >>= _) _ _ s; refine wpAny_bind (wpAny_field ho hd (x := .ref t) rfl ?_)
  show wpAny _ _ (if (Value.ref t == Value.none) = true then _ else _) _ _ s; rw [if_neg (show ¬ ((Value.ref t == Value.none) = true) from Bool.false_ne_true)]
  show wpAny _ _ (field (.ref it) 1 >>= _) _ _ s; refine wpAny_bind (wpAny_field ho hd (x := .int i 0) rfl ?_)
  show wpAny _ _ (seqItems? (.ref t) >>= _) _ _ s; refine wpAny_bind (wpAny_seqItems hol hdl ?_)
  simp only [Int.toNat_natCast, hx]
  refine wpAny_bind (wpAny_setField ho hd (by simp) (wpAny_pure ⟨x, rfl, wpAny_pure (hQ _ ⟨_, Heap.get?_update_self _ ho (Obj.isFreed_of_fields (Obj.data_mapFields hd _)), (Obj.cls_mapFields ..).trans hc, by rw [Obj.data_mapFields hd]; simp [rawInt]⟩ (Heap.SameBut.update ..))⟩))
theorem tupEnd {it t : Addr} {i : Nat} {items : Array Value} {Q : Value → Shared → Prop} (hh : A.handled = none) (hit : s.heap.IsTupleIter it t i) (ht : s.heap.IsTuple t items) (hx : items[i]? = none)
    (hE : ∀ h' e, Heap.ExtBut it s.heap h' → (∃ o, h'.get? e = some o ∧ o.cls = .type "StopIteration") → E (.ref e) { s with heap := h' }) : wpAny (model prog w) A (Builtin.SmallTypes.nextOf (.ref it)) Q E s := by
  obtain ⟨o, ho, hc, hd⟩ := id hit
  obtain ⟨ol, hol, _, nl, hdl⟩ := ht
  unfold Builtin.SmallTypes.nextOf
  refine wpAny_bind (wpAny_callSpecial?_slot (name := Str.ofString "__next__") hit.typeIs F.slot_tuple_iterator_next (wpAny_call_entry F.slot_tuple_iterator_next hit.typeIs F.entry_tuple_iterator_next ?_ (F.args_tuple_iterator_next_1 _)))
  show wpAny _ _ (field (.ref it) 0 >>= _) _ _ s; refine wpAny_bind (wpAny_field ho hd (x := .ref t) rfl ?_)
  show wpAny _ _ (if (Value.ref t == Value.none) = true then _ else _) _ _ s; rw [if_neg (show ¬ ((Value.ref t == Value.none) = true) from Bool.false_ne_true)]
  show wpAny _ _ (field (.ref it) 1 >>= _) _ _ s; refine wpAny_bind (wpAny_field ho hd (x := .int i 0) rfl ?_)
  show wpAny _ _ (seqItems? (.ref t) >>= _) _ _ s; refine wpAny_bind (wpAny_seqItems hol hdl ?_)
  simp only [Int.toNat_natCast, hx]
  refine wpAny_bind (wpAny_rule (wpAny_bind (wpAny_setField ho hd (by simp) ?_)))
  show wpAny _ _ (newExc (.type "StopIteration") [] >>= _) _ _ _; refine wpAny_bind ?_
  simp only [newExc, newTuple]
  refine wpAny_bind (wpAny_newObj_type ?_ (by size_fits)); refine wpAny_bind (m := firstArgMember _ _) (wpAny_of_eq (a := Value.none) (by first | rfl | (simp only [firstArgMember]; rfl)) ?_)
  refine wpAny_newObj_type ?_ (by size_fits); simp only [raiseNew]
  refine wpAny_bind (wpAny_handled ?_)
  first | rw [show A.in1.handled = none from hh] | rw [hh]
  refine wpAny_bind (wpAny_pure (wpAny_throw (hE _ _ (((Heap.SameBut.update ..).extBut.push _).push _) ⟨_, Heap.get?_push_size _ rfl, rfl⟩)))
theorem drawsTup (hh : A.handled = none) (it t : Addr) (hne : t ≠ it) (items : Array Value) :
    Draws prog w A it [it, t] items.size (fun i v => items[i]? = some v) (fun i h => h.IsTupleIter it t i ∧ h.IsTuple t items) where
  live := fun _ _ st => let ⟨o, ho, _⟩ := st.1; ⟨o, ho⟩
  frame := fun _ _ _ st hk => ⟨st.1.at fun o e => hk it (by simp) o e, let ⟨o, ho, r⟩ := st.2; ⟨o, hk t (by simp) o ho, r⟩⟩
  item := fun i s Q E hi st hQ => tupNext st.1 st.2 (x := items[i]) (by simp [hi]) fun h' hit' hs' => hQ _ h' s.toks (by simp [hi]) ⟨hit', st.2.extBut hs'.extBut hne⟩ hs'
  done := fun s Q E st hE => tupEnd hh st.1 st.2 (by simp) hE
open AutoSeq1 (wpAny_loadPart') in
theorem enumNewT (l : Addr) (items : Array Value) (n : Nat) (dct : Option Addr) (sl : Array (Option Value)) :
    Meets (Builtin.«enumerate.__new__» ⟨[.type "enumerate", .ref l], []⟩) (fun _ R s => s.heap.get? l = some { cls := .type "tuple", dict := dct, data := .seq items n, slots := sl } ∧
      R (.ok (.ret (.ref (s.heap.push { cls := .type "tuple_iterator", data := .fields #[.ref l, .int 0 0] }).objs.size)))
        { s with heap := (s.heap.push { cls := .type "tuple_iterator", data := .fields #[.ref l, .int 0 0] }).push { cls := .type "enumerate", data := .fields #[.none, .bool false, .ref s.heap.objs.size, rawInt 0, .none, .none] } }) :=
  .of_wp fun prog w A R s h => by
    obtain ⟨hp, g, d, tk, os⟩ := s; obtain ⟨hl, h⟩ := h
    have hsub := sub_enumerate
    have hL : Heap.IsTuple (Shared.heap ⟨hp, g, d, tk, os⟩) l items := ⟨_, hl, rfl, n, rfl⟩
    wp_walk using wpAny_loadPart' hl
    refine wpAny_stack_any fun st => wpAny_pure ?_
    split
    · rename_i c _ _ _ _ _
      cases (c == Value.type "enumerate")
      · wp_walk using wpAny_loadPart' hl, wpAny_pyIter_tuple hL
        exact ⟨_, rfl, h⟩
      · wp_walk using wpAny_loadPart' hl, wpAny_pyIter_tuple hL
        exact ⟨_, rfl, h⟩
    · wp_walk using wpAny_loadPart' hl, wpAny_pyIter_tuple hL
      exact ⟨_, rfl, h⟩
theorem callEnumT {l : Addr} {items : Array Value} {Q : Value → Shared → Prop} (hL : s.heap.IsTuple l items)
    (h : ∀ h', IsEnum h' (s.heap.objs.size + 1) s.heap.objs.size 0 .none → h'.IsTupleIter s.heap.objs.size l 0 → h'.objs.size = s.heap.objs.size + 2 → (∀ b o, s.heap.get? b = some o → h'.get? b = some o) → Q (.ref (s.heap.objs.size + 1)) { s with heap := h' }) :
    wpAny (model prog w) A (call (.type "enumerate") [.ref l]) Q E s := by
  obtain ⟨⟨c, dct, dt, sl⟩, hl, hc, n, hd⟩ := hL
  obtain rfl : c = .type "tuple" := hc
  obtain rfl : dt = .seq items n := hd
  refine callType_new F.called_enumerate (by decide) (F.typeCall_enumerate_1 _) (F.newCall_enumerate_1 _) (fun obj => F.args_object_init_2 obj _) F.entry_enumerate_new (enumNewT l items n dct sl) ⟨hl, ?_⟩
  have hz : (s.heap.push { cls := .type "tuple_iterator", data := .fields #[.ref l, .int 0 0] }).objs.size = s.heap.objs.size + 1 := Heap.size_push ..
  show _ ∧ _
  rw [hz]
  have he : IsEnum ((s.heap.push { cls := .type "tuple_iterator", data := .fields #[.ref l, .int 0 0] }).push
      { cls := .type "enumerate", data := .fields #[.none, .bool false, .ref s.heap.objs.size, rawInt 0, .none, .none] }) (s.heap.objs.size + 1) s.heap.objs.size 0 .none := by
    have q := Heap.get?_push_size (s.heap.push { cls := .type "tuple_iterator", data := .fields #[.ref l, .int 0 0] }) (o := { cls := .type "enumerate", data := .fields #[.none, .bool false, .ref s.heap.objs.size, rawInt 0, .none, .none] }) rfl
    rw [hz] at q; exact q
  exact ⟨⟨_, he, rfl⟩, h _ he ⟨_, Heap.get?_push_of_some _ (Heap.get?_push_size _ rfl), rfl, rfl⟩ (by rw [Heap.size_push, hz]) fun b o x => Heap.get?_push_of_some _ (Heap.get?_push_of_some _ x)⟩
end
def Ite (K : PySem.W.Frag) (a : Addr) : It :=
  ⟨fun i H => ∃ xs x, SqT K H a xs ∧ xs[i]? = some x, fun i H v H' => ∀ xs, SqT K H a xs → ∃ x p, xs[i]? = some x ∧ v = .ref p ∧ H p = none ∧ H' = upd H p (.tup [.int i, x]), fun i H => ∃ xs, SqT K H a xs ∧ xs.length ≤ i⟩
theorem turn_enum {P : Program} {w : World} {K : PySem.W.Frag} {es : List Expr} {kt : Nat} {pt : Pos} (a e it : Addr) (hei : e ≠ it) : Turn P w K (.Tuple es kt pt) (Ite K a) [e, it] e (fun i h => (∃ old, IsEnum h e it i old) ∧ h.IsTupleIter it a i) where
  mem := by simp
  obj := fun i h st b hb => by
    obtain ⟨⟨old, h1⟩, o, h2, c, d⟩ := st
    rcases List.mem_cons.mp hb with z | z
    · subst z; exact ⟨_, h1, fun v z => by have z' : Data.fields _ = Data.cell v := z; cases z'⟩
    · have z' : b = it := by simpa using z
      subst z'; exact ⟨o, h2, fun v z => by rw [d] at z; cases z⟩
  keep := fun i h h' st k => ⟨let ⟨old, h1⟩ := st.1; ⟨old, k e (by simp) _ h1⟩, st.2.at fun o q => k it (by simp) o q⟩
  item := by
    intro X hP hw hK hc i pins s σ H E I hf st hg
    subst hP hw hK
    obtain ⟨⟨old, he⟩, hit⟩ := st
    obtain ⟨xs, x, hq, hx⟩ := hg
    obtain ⟨its, rv, p, hz⟩ := I.tuple hq
    have hlen := rv.length
    have hi : i < its.toArray.size := by rw [List.size_toArray, ← hlen]; exact (List.getElem?_eq_some_iff.mp hx).1
    have hai : a ≠ it := fun z => by
      obtain ⟨o, h1, h2, _⟩ := p
      obtain ⟨o', h1', h2', _⟩ := hit
      rw [z, h1'] at h1; cases h1; rw [h2'] at h2; exact absurd h2 (by decide)
    have hae : e ∉ [it, a] := fun z => by
      rcases List.mem_cons.mp z with q | q
      · exact hei q
      · have q' : e = a := by simpa using q
        obtain ⟨o, h1, h2, _⟩ := p
        rw [← q', he] at h1; cases h1; exact absurd h2 (by show ¬ (Value.type "enumerate" = Value.type "tuple"); decide)
    refine wpAny_pyNext_enum_itemD (drawsTup (A := X.A.in1) (I.ok.hd hc) it a hai its.toArray) he ⟨hit, show s.heap.IsTuple a its.toArray from p⟩ hi hei hae fun u h' tk hu ho hst' hT hsz hk => ?_
    refine ⟨_, rfl, wpAny_letOwnedTupleGo_enum ho fun h2 he2 hs2 => ?_⟩
    obtain ⟨u', hu', ru⟩ := rv.get hx
    have euu : u' = u := by
      have z : its.toArray[i]? = some u := hu
      have z2 : its[i]? = some u := by simpa using z
      rw [hu'] at z2; exact Option.some.inj z2
    subst euu
    have hTe : s.heap.objs.size ≠ e := Nat.ne_of_gt (Heap.lt_size he)
    have hT2 : h2.get? s.heap.objs.size = some { cls := .type "tuple", data := .seq #[.int i tk, u'] } := (hs2.2 _ hTe).trans hT
    have hn : H s.heap.objs.size = none := I.hok.fresh (Nat.le_refl _)
    refine ⟨.ref s.heap.objs.size, upd H s.heap.objs.size (.tup [.int i, x]), I.turnNew (ch := [e, it]) (t' := tk + 1) (Nat.le_refl _) (fun b o hb q => ?_) hf ?_, rfl, fun ys hy => ?_, ⟨⟨_, he2⟩, hst'.1.at fun o q => ?_⟩, fun b hb => ?_⟩
    · have h1 : b ≠ e := fun z => hb (by simp [z])
      have h2' : b ≠ it := fun z => hb (by simp [z])
      exact (hs2.2 b h1).trans (hk b o h1 h2' q)
    · exact ⟨by show 2 ≤ sizeLine; decide, [.int i tk, u'], .cons ⟨_, rfl⟩ (.cons ru .nil), ⟨_, hT2, rfl, _, rfl⟩⟩
    · rw [I.tuple_inj hy hq]
      exact ⟨x, _, hx, rfl, hn, rfl⟩
    · exact (hs2.2 it (Ne.symm hei)).trans q
    · obtain ⟨o, q, _⟩ : ∃ o, s.heap.get? b = some o ∧ True := by
        rcases List.mem_cons.mp hb with z | z
        · exact ⟨_, z ▸ he, trivial⟩
        · have z' : b = it := by simpa using z
          obtain ⟨o, q, _⟩ := hit
          exact ⟨o, z' ▸ q, trivial⟩
      rw [upd_ne (Nat.ne_of_lt (Heap.lt_size q))]
      exact (hf b hb).1
  done := by
    intro X hP hw hK hc i pins s σ H E I hf st hg
    subst hP hw hK
    obtain ⟨⟨old, he⟩, hit⟩ := st
    obtain ⟨xs, hq, hx⟩ := hg
    obtain ⟨its, rv, p, hz⟩ := I.tuple hq
    have hlen := rv.length
    have hT : s.TypeIs (.ref e) "enumerate" := ⟨_, he, rfl⟩
    unfold pyNext
    refine wpAny_bind (wpAny_attempt (wpAny_callSpecial?_slot (name := Str.ofString "__next__") hT F.slot_enumerate_next (wpAny_call_entry F.slot_enumerate_next hT F.entry_enumerate_next ?_ (F.args_enumerate_next_1 _))))
    show wpAny _ _ (field (.ref e) 2 >>= _) _ _ _; refine wpAny_bind (wpAny_field he rfl (x := .ref it) rfl ?_)
    refine wpAny_bind (tupEnd (I.ok.hd hc) hit (show s.heap.IsTuple a its.toArray from p) (by simp; omega) fun h' x he' hx' => ?_)
    obtain ⟨o, ho, hc⟩ := hx'
    refine wpAny_bind (wpAny_isInstance (T := "StopIteration") (b := true) ⟨o, ho, hc⟩ isSubtype_stop ?_)
    exact wpAny_pure ⟨rfl, I.turnAll (ch := [e, it]) (t' := s.toks) (fun b u hb q => he' b u (fun z => hb (by simp [z])) q) hf⟩
  self := fun _ _ _ _ _ st h => by
    obtain ⟨⟨old, q⟩, _⟩ := st
    exact wpAny_pyIter_enum q h
section
variable {X : Cx}
def iEnum (K : PySem.W.Frag) (ta : TA) : TI := fun σ H R => ta σ H fun vs H1 => ∃ a, vs = [.ref a] ∧ (∃ xs, SqT K H1 a xs) ∧ R (Ite K a) H1
theorem pi_enum {a : Expr} {ta : TA} {p pos : Pos} {es : List Expr} {kt : Nat} {pt : Pos} (hg : Gl X "enumerate") (hm : X.mg "enumerate" = none) (ha : PA X [a] ta) (hs : starEach [a] X.env = [(false, eval a X.env)] := by rfl) :
    PI X (.Tuple es kt pt) (.Call (.Name "enumerate" p) [a] [] pos) (iEnum X.K ta) := by
  intro pins s σ H R I h
  refine Call_ (ld_blt I hg hm boot_enumerate (PyProof.Rows.callWith_type1 (thn (ha pos pins s σ H _ I h) fun us s1 ⟨vs, H1, I1, r1, q1⟩ => ?_) hs rfl))
  obtain ⟨x, e, ⟨xs, hq⟩, q⟩ := q1
  subst e
  obtain ⟨u, rfl, ru⟩ := vals1 r1
  cases ru
  obtain ⟨its, rv, pl, hz⟩ := I1.tuple hq
  refine callEnumT (show s1.heap.IsTuple x its.toArray from pl) fun h' he hit hz kp => ?_
  have I2 : Inv X pins σ H1 { s1 with heap := h' } := I1.kept (t' := s1.toks) kp
  refine wpAny_pyIter_enum he ⟨s1.heap.objs.size + 1, [s1.heap.objs.size + 1, s1.heap.objs.size], _, _, H1, rfl, I2, turn_enum x _ _ (Nat.ne_of_gt (Nat.lt_succ_self _)), ⟨⟨_, he⟩, hit⟩, fun b hb => ?_, q⟩
  have hb' : s1.heap.objs.size ≤ b := by
    rcases List.mem_cons.mp hb with z | z
    · rw [z]; exact Nat.le_succ _
    · have z' : b = s1.heap.objs.size := by simpa using z
      rw [z']; exact Nat.le_refl _
  exact I1.fpOk hb' (I1.hok.fresh hb')
end
end L2
set_option Elab.async false
set_option linter.all false
set_option maxRecDepth 100000
set_option maxHeartbeats 4000000
namespace L2
open PySem PySem.Spec PyProof.Rows
section
variable {X : Cx}
def rSetD : V → List V → Hp → VK → Prop := fun x vs H Q => ∃ a kvs k v, x = .ref a ∧ vs = [kV k, v] ∧ H a = some (.dK kvs) ∧ kvs.length < sizeLine ∧
  (∀ y, valV kvs k = some y → Q y H) ∧ (valV kvs k = none → Q v (upd H a (.dK (putK kvs k v))))
theorem mt_setdefault : MtM X "dict.setdefault" rSetD := by
  intro pins s σ H x vs v us Q I rx rv h
  obtain ⟨a, kvs, k, y, rfl, rfl, hH, hz, q1, q2⟩ := h
  cases rx
  obtain ⟨ku, vu, rfl, rk, ry⟩ := rv.two
  obtain ⟨z, hd, xs, rel, dd⟩ := dk_of I.hok hH
  have hl : xs.length ≤ sizeLine := by rw [← rel.length]; exact z
  refine call_meetsIn PySem.F.slot_dict_setdefault dd.typeIs PySem.F.entry_dict_setdefault (PySem.F.args_dict_setdefault_3 _ _ _) (kt_meets_setdefault (mixKind X.prog X.w) a (kV_is rk) hd vu) ⟨xs, dd, hl, fun w hw => ?_, fun hn h' dd' hs => ?_⟩
  · have ro := rel.val k
    rw [hw] at ro
    cases e : valV kvs k with
    | none => rw [e] at ro; exact ro.elim
    | some b => rw [e] at ro; exact ⟨b, H, I.tok _, ro, q1 b e⟩
  · have ro := rel.val k
    rw [hn] at ro
    cases e : valV kvs k with
    | some b => rw [e] at ro; exact ro.elim
    | none =>
      have hlp : (putK kvs k y).length ≤ sizeLine := by have := length_putK kvs k y; omega
      refine ⟨y, upd H a (.dK (putK kvs k y)), d_write (t' := s.toks + 1) I (by rw [hH]; trivial) hs ?_ (dk_new hlp hd (rel.put k ry) dd'), ry, q2 e⟩
      obtain ⟨o, _, _, e', _⟩ := dd'
      exact ⟨o, e'⟩
end
theorem pairedAt {α β : Type} {F : α → β → Prop} : ∀ {l₁ : List α} {l₂ : List β} {i : Nat} {a : α} {b : β}, Paired F l₁ l₂ → l₁[i]? = some a → l₂[i]? = some b → F a b
  | _, _, _, _, _, .nil, e, _ => by simp at e
  | _, _, 0, _, _, .cons r _, e, e' => by simp at e e'; subst e; subst e'; exact r
  | _, _, i + 1, _, _, .cons _ t, e, e' => pairedAt (i := i) t (by simpa using e) (by simpa using e')
theorem small24 {n : Nat} (h : n ≤ 1000) : n ≤ 2 ^ 24 := Nat.le_trans h (by decide)
section
variable {X : Cx}
theorem pe_range1 {a : Expr} {ta : TA} {p pos : Pos} (hg : Gl X "range") (hm : X.mg "range" = none) (ha : PA X [a] ta) (hs : starEach [a] X.env = [(false, eval a X.env)] := by rfl) :
    PE X (.Call (.Name "range" p) [a] [] pos) (fun σ H Q => ta σ H fun vs H1 => ∃ j : Int, vs = [.int j] ∧ ∀ r, H1 r = none → Q (.ref r) (upd H1 r (.rng 0 j))) := by
  intro pins s σ H Q I h
  refine Call_ (ld_blt I hg hm boot_range (PyProof.Rows.callWith_type1 (thn (ha pos pins s σ H _ I h) fun us s1 ⟨vs, H1, I1, r1, q1⟩ => ?_) hs rfl))
  obtain ⟨j, e, q⟩ := q1
  subst e
  obtain ⟨u, rfl, ru⟩ := vals1 r1
  obtain ⟨t, rfl⟩ := ru
  refine call_range_1 ?_
  refine ⟨.ref s1.heap.objs.size, _, I1.laid (o := .rng 0 j) (fun b u e => Heap.get?_push_of_some _ e) (Nat.le_refl _) ?_, rfl, q _ (I1.hok.fresh (Nat.le_refl _))⟩
  exact ⟨_, _, _, Heap.get?_push_size _ rfl⟩
theorem call_list_rng (hc : X.calm = true) : CallR X (.type "list") (fun xs H Q => ∃ r j, xs = [.ref r] ∧ H r = some (.rng 0 j) ∧ 0 ≤ j ∧ j ≤ 1000 ∧ ∀ l, H l = none → Q (.ref l) (upd H l (.lst ((List.range j.toNat).map fun i => .int (i : Nat))))) := by
  intro pins s σ H xs us Q I r h
  obtain ⟨a, j, rfl, ha, h0, h1, q⟩ := h
  obtain ⟨u, rfl, ru⟩ := vals1 r
  cases ru
  obtain ⟨t, u, v, e⟩ := I.hok a _ ha
  refine call_list_range (n := j.toNat) (I.ok.hd hc) (show IsRange s.heap a 0 j 1 t u v from e) (small_one (by omega) (by omega) (by omega) (by omega)) (by rw [rangeSize_one]; split <;> omega) (small24 (by omega)) fun h' tk acc c' kp hl hacc => ?_
  obtain ⟨hsz, hit⟩ := hacc
  have rv : Vals ((List.range j.toNat).map fun i => V.int (i : Nat)) acc.toList := by
    have gen : ∀ (n : Nat) (l : List Value), l.length = n → (∀ (j : Nat) v, l[j]? = some v → ∃ t, v = .int (0 + (j : Int) * 1) t) → Vals ((List.range n).map fun i => V.int (i : Nat)) l := by
      intro n
      induction n with
      | zero => intro l hl _; cases l with | nil => exact .nil | cons => simp at hl
      | succ n ih =>
        intro l hl hj
        have hne : l ≠ [] := by intro z; rw [z] at hl; simp at hl
        have el : l = l.dropLast ++ [l.getLast hne] := (List.dropLast_concat_getLast hne).symm
        rw [List.range_succ, List.map_append, el]
        refine Vals.append (ih _ (by rw [List.length_dropLast, hl]; rfl) fun j v e => hj j v ?_) (.cons ?_ .nil)
        · rw [List.getElem?_dropLast] at e
          split at e
          · exact e
          · cases e
        · obtain ⟨t, e⟩ := hj n (l.getLast hne) (by rw [List.getLast_eq_getElem, List.getElem?_eq_getElem (by omega)]; congr 1; simp [hl])
          exact ⟨t, by rw [e]; congr 1; omega⟩
    refine gen _ _ (by rw [Array.length_toList]; exact hsz) fun j v e => hit j v (by simpa using e)
  have hlen : ((List.range j.toNat).map fun i => V.int (i : Nat)).length ≤ sizeLine := by rw [List.length_map, List.length_range]; have := (by decide : 1000 < sizeLine); omega
  refine ⟨.ref s.heap.objs.size, _, I.laid (o := .lst ((List.range j.toNat).map fun i => V.int (i : Nat))) (t' := tk) kp (Nat.le_refl _) ?_, rfl, q _ (I.hok.fresh (Nat.le_refl _))⟩
  exact ⟨hlen, acc.toList, c', rv, by rw [Array.toArray_toList]; exact hl⟩
end
end L2
set_option Elab.async false
set_option linter.all false
set_option maxRecDepth 100000
set_option maxHeartbeats 4000000
namespace L2
open PySem PySem.Spec PyProof.Rows
open PySem.W (Dat kqdP kqdPs kqdOk)
mutual
inductive DV (H : Hp) : V → Dat → Prop
  | non : DV H .non .none
  | int (i : Int) : DV H (.int i) (.int i)
  | str (x : Str) : DV H (.str x) (.str x)
  | tup {a : Addr} {xs : List V} {ds : List Dat} (e : H a = some (.tup xs)) (r : DVs H xs ds) : DV H (.ref a) (.tuple ds)
  | lst {a : Addr} {xs : List V} {ds : List Dat} (e : H a = some (.lst xs)) (r : DVs H xs ds) : DV H (.ref a) (.list ds)
inductive DVs (H : Hp) : List V → List Dat → Prop
  | nil : DVs H [] []
  | cons {x : V} {d : Dat} {xs : List V} {ds : List Dat} (h : DV H x d) (r : DVs H xs ds) : DVs H (x :: xs) (d :: ds)
end
mutual
theorem DV.reads {P : Program} {w : World} {H : Hp} {h : Heap} (ok : HOk P w H h) : ∀ {x : V} {d : Dat} {u : Value}, DV H x d → RelV x u → ∃ as, Reads h u (kqdP d) as
  | _, _, _, .non, r => by cases r; exact ⟨_, by rw [kqdP]; exact Reads.none⟩
  | _, _, _, .int i, r => by obtain ⟨t, rfl⟩ := r; exact ⟨_, by rw [kqdP]; exact Reads.int i t⟩
  | _, _, _, .str x, r => by obtain ⟨t, rfl⟩ := r; exact ⟨_, by rw [kqdP]; exact Reads.str x t⟩
  | _, _, _, .tup (a := a) e q, r => by
    cases r
    obtain ⟨_, its, rv, o, h1, h2, n, h3⟩ := ok a _ e
    obtain ⟨as, z⟩ := DVs.reads ok q rv
    rw [kqdP]
    exact ⟨as, reads_tuple_at h1 h2 h3 (by simpa using z)⟩
  | _, _, _, .lst (a := a) e q, r => by
    cases r
    obtain ⟨_, its, n, rv, h1⟩ := ok a _ e
    obtain ⟨as, z⟩ := DVs.reads ok q rv
    rw [kqdP]
    exact ⟨_, reads_list_at h1 rfl rfl (by simpa using z)⟩
theorem DVs.reads {P : Program} {w : World} {H : Hp} {h : Heap} (ok : HOk P w H h) : ∀ {xs : List V} {ds : List Dat} {us : List Value}, DVs H xs ds → Vals xs us → ∃ as, ReadsAll h us (kqdPs ds) as
  | _, _, _, .nil, r => by cases r; exact ⟨_, by rw [kqdPs]; exact ReadsAll.nil⟩
  | _, _, _, .cons p q, r => by
    cases r with
    | cons r1 r2 =>
      obtain ⟨as, z⟩ := DV.reads ok p r1
      obtain ⟨bs, y⟩ := DVs.reads ok q r2
      rw [kqdPs]
      exact ⟨_, ReadsAll.cons z y⟩
end
mutual
theorem DV.mono {H H' : Hp} (s : ∀ b o, H b = some o → H' b = some o) : ∀ {x : V} {d : Dat}, DV H x d → DV H' x d
  | _, _, .non => .non
  | _, _, .int i => .int i
  | _, _, .str x => .str x
  | _, _, .tup e q => .tup (s _ _ e) (DVs.mono s q)
  | _, _, .lst e q => .lst (s _ _ e) (DVs.mono s q)
theorem DVs.mono {H H' : Hp} (s : ∀ b o, H b = some o → H' b = some o) : ∀ {xs : List V} {ds : List Dat}, DVs H xs ds → DVs H' xs ds
  | _, _, .nil => .nil
  | _, _, .cons p q => .cons (DV.mono s p) (DVs.mono s q)
end
theorem DVs.ints {H : Hp} : ∀ ns : List Int, DVs H (ns.map V.int) (ns.map Dat.int)
  | [] => .nil
  | n :: r => .cons (.int n) (DVs.ints r)
theorem dat_shaped {n : Nat} {d : Dat} (h : kqdOk n d = true) (hn : n ≤ 9) : SeqAt.shaped (kqdP d) = true := by
  have l := PySem.W.kqd_lay n d h
  unfold SeqAt.shaped
  rw [l.1, Bool.true_and]
  exact decide_eq_true (Nat.le_trans l.2 (Nat.le_trans hn (by decide)))
open Classical in
theorem dat_eqv {n k : Nat} {d e : Dat} (h : kqdOk n d = true) (h' : kqdOk k e = true) : PyData.eqv (kqdP d) (kqdP e) = decide (d = e) := by
  have q := PySem.W.kqd_eqv n d e k h h'
  by_cases hq : d = e
  · rw [decide_eq_true hq]; exact q.mpr hq
  · rw [decide_eq_false hq]; exact Bool.eq_false_iff.mpr fun x => hq (q.mp x)
section
variable {X : Cx}
def rDat (neg : Bool) : R2 := fun x y H Q => ∃ d e n, DV H x d ∧ DV H y e ∧ kqdOk n d = true ∧ kqdOk n e = true ∧ n ≤ 9 ∧ ((d = e → Q (.bl (!neg)) H) ∧ (d ≠ e → Q (.bl neg) H))
theorem op_eqD (hu : X.A.units + 64 < cLine) : OpR X (compareOp .Eq) (rDat false) := by
  classical
  intro pins s σ H x y v u Q I rx ry h
  obtain ⟨d, e, n, dx, dy, hd, he, hn, q1, q2⟩ := h
  obtain ⟨as, ra⟩ := dx.reads I.hok rx
  obtain ⟨bs, rb⟩ := dy.reads I.hok ry
  refine eq_dataH ra rb (dat_shaped hd hn) (dat_shaped he hn) hu ?_
  rw [dat_eqv hd he]
  by_cases hq : d = e
  · rw [decide_eq_true hq]; exact ⟨.bl true, H, I, rfl, q1 hq⟩
  · rw [decide_eq_false hq]; exact ⟨.bl false, H, I, rfl, q2 hq⟩
theorem op_neD (hu : X.A.units + 64 < cLine) : OpR X (compareOp .NotEq) (rDat true) := by
  classical
  intro pins s σ H x y v u Q I rx ry h
  obtain ⟨d, e, n, dx, dy, hd, he, hn, q1, q2⟩ := h
  obtain ⟨as, ra⟩ := dx.reads I.hok rx
  obtain ⟨bs, rb⟩ := dy.reads I.hok ry
  refine ne_dataH ra rb (dat_shaped hd hn) (dat_shaped he hn) hu ?_
  rw [dat_eqv hd he]
  by_cases hq : d = e
  · rw [decide_eq_true hq]; exact ⟨.bl false, H, I, rfl, q1 hq⟩
  · rw [decide_eq_false hq]; exact ⟨.bl true, H, I, rfl, q2 hq⟩
end
end L2
set_option Elab.async false
set_option linter.all false
set_option maxRecDepth 100000
set_option maxHeartbeats 4000000
namespace SortT
open PySem PySem.W PyProof.Rows
structure Ord (f : Nat → Nat → Bool) : Prop where
  asym : ∀ i j, f i j = true → f j i = false
  tr : ∀ i j k, f j i = false → f k j = false → f k i = false
section
variable {f : Nat → Nat → Bool} (O : Ord f)
def Le (f : Nat → Nat → Bool) (i j : Nat) : Prop := f j i = false
include O in
theorem le_refl (i : Nat) : Le f i i := by
  unfold Le
  cases h : f i i with
  | false => rfl
  | true => have := O.asym i i h; rw [h] at this; cases this
theorem Le.trans {i j k : Nat} (O : Ord f) (h : Le f i j) (h' : Le f j k) : Le f i k := O.tr i j k h h'
theorem Le.of {i j : Nat} (O : Ord f) (h : f i j = true) : Le f i j := O.asym i j h
abbrev at_ (p : Array Nat) (i : Nat) : Nat := p.getD i 0
end
end SortT
set_option Elab.async false
set_option linter.all false
set_option maxRecDepth 100000
set_option maxHeartbeats 4000000
namespace SortT
open PySem PySem.W PyProof.Rows
def AllT {α : Type} (P : Nat → Nat → Prop) (R : α → Prop) : KasT α → Prop
  | .ret a => R a
  | .ask i j k => P i j ∧ ∀ b, AllT P R (k b)
theorem AllT.bind {α β : Type} {P : Nat → Nat → Prop} {R : α → Prop} {S : β → Prop} {g : α → KasT β} : ∀ {t : KasT α}, AllT P R t → (∀ a, R a → AllT P S (g a)) → AllT P S (t.bind g)
  | .ret a, h, hg => hg a h
  | .ask i j k, h, hg => ⟨h.1, fun b => AllT.bind (h.2 b) hg⟩
section
variable {N : Nat}
def Bd (N : Nat) (p : Array Nat) : Prop := 0 < N ∧ ∀ x ∈ p.toList, x < N
theorem Bd.at {p : Array Nat} (h : Bd N p) (i : Nat) : p.getD i 0 < N := by
  rw [Array.getD_eq_getD_getElem?]
  cases e : p[i]? with
  | none => exact h.1
  | some x => exact h.2 x (by rw [← Array.getElem?_toList] at e; exact List.mem_of_getElem? e)
theorem Bd.perm {p q : Array Nat} (h : Bd N p) (hp : q.Perm p) : Bd N q := ⟨h.1, fun x hx => h.2 x ((Array.perm_iff_toList_perm.mp hp).mem_iff.mp hx)⟩
end
section
variable {prog : Program} {w : World} {A : Around} {E : Value → Shared → Prop} {s : Shared}
end
end SortT
namespace L2
open PySem PySem.Spec PyProof.Rows
theorem ObjOk.there {P : Program} {w : World} {H : Hp} {h : Heap} {a : Addr} {o : HO} (x : ObjOk P w H h a o) : ∃ ob, h.get? a = some ob := by
  cases o with
  | lst xs => obtain ⟨_, _, _, _, e⟩ := x; exact ⟨_, e⟩
  | tup xs => obtain ⟨_, _, _, o, e, _⟩ := x; exact ⟨_, e⟩
  | dK kvs => obtain ⟨_, _, _, _, o, _, _, e, _⟩ := x; exact ⟨_, e⟩
  | dT kvs => obtain ⟨_, _, _, _, o, _, _, e, _⟩ := x; exact ⟨_, e⟩
  | set S n => obtain ⟨o, _, _, _, e, _⟩ := x; exact ⟨_, e⟩
  | ins C dx fs => obtain ⟨_, _, _, e, _⟩ := x; exact ⟨_, e⟩
  | own y => exact x
  | xd fs => obtain ⟨_, ⟨_, _, _, e, _⟩, _⟩ := x; exact ⟨_, e⟩
  | rng lo hi => obtain ⟨_, _, _, e⟩ := x; exact ⟨_, e⟩
  | frz ob u => obtain ⟨e, _⟩ := x; exact ⟨_, e⟩
  | tbl ps => exact ⟨_, (show h.get? a = some _ from x)⟩
  | met f y => exact ⟨_, (show h.get? a = some _ from x)⟩
  | ext φ => obtain ⟨_, e, _⟩ := x; exact e
section
variable {X : Cx}
end
end L2
set_option Elab.async false
set_option linter.all false
set_option maxRecDepth 100000
set_option maxHeartbeats 4000000
namespace L2
open PySem PySem.Spec PyProof.Rows
theorem Same.put {H H' : Hp} {a : Addr} {o : HO} (s : Same H H') (h : H a = none) : Same H (upd H' a o) := fun b u e => by rw [upd_ne (ne_of_none e h)]; exact s b u e
theorem Same.new {H H' : Hp} {a : Addr} {o : HO} (s : Same H H') (h : H' a = none) : Same H (upd H' a o) := s.put (s.free h)
end L2
set_option Elab.async false
set_option linter.all false
set_option maxRecDepth 100000
set_option maxHeartbeats 4000000
namespace L2
open PySem PySem.Spec PyProof.Rows
theorem kV_back {P : Program} {w : World} {k : Key} {u : Value} (h : (mixKind P w).is k u = true) : RelV (kV k) u := by
  rw [mixKind_is] at h
  rcases keyIs_shape h with ⟨i, t, rfl, rfl⟩ | ⟨x, t, rfl, rfl⟩
  · exact ⟨t, rfl⟩
  · exact ⟨t, rfl⟩
def Itk (d : Addr) (o : Obj) (kvs : List (Key × V)) : It :=
  ⟨fun i H => H d = some (.frz o (.dK kvs)) ∧ i < kvs.length, fun i H x H' => H' = H ∧ ∃ k v, kvs[i]? = some (k, v) ∧ x = kV k, fun i H => H d = some (.frz o (.dK kvs)) ∧ kvs.length ≤ i⟩
theorem turn_keys {P : Program} {w : World} {K : PySem.W.Frag} {tg : Expr} (d it : Addr) (o : Obj) (kvs : List (Key × V)) (vs : List (Key × Value)) (ep : Nat) (rel : KV kvs vs) (hdi : d ≠ it)
    (hd : ∀ h : Heap, h.get? d = some o → h.DictAt (mixKind P w) d vs ep) :
    Turn P w K tg (Itk d o kvs) [it] it (fun i h => h.IsKeyIter it d i vs.length ep) where
  mem := by simp
  obj := fun i h st b hb => by
    have e : b = it := by simpa using hb
    subst e
    obtain ⟨o, e, c, d⟩ := st
    exact ⟨o, e, fun v z => by rw [d] at z; cases z⟩
  keep := fun i h h' st k => by
    obtain ⟨o, e, c, d⟩ := st
    exact ⟨o, k it (by simp) o e, c, d⟩
  item := by
    intro X hP hw hK hc i pins s σ H E I hf st hg
    subst hP hw hK
    obtain ⟨hH, hlt⟩ := hg
    obtain ⟨e1, _⟩ := I.hok d _ hH
    obtain ⟨⟨k, y⟩, hx⟩ : ∃ p, kvs[i]? = some p := ⟨kvs[i], by simp [hlt]⟩
    have hlen : kvs.length = vs.length := Paired.length rel
    obtain ⟨⟨k', u⟩, hu⟩ : ∃ p, vs[i]? = some p := ⟨vs[i]'(by omega), by simp [show i < vs.length by omega]⟩
    have rk : k = k' := (pairedAt rel hx hu).1
    subst rk
    obtain ⟨f0, f1, f2, f3, f4, f5⟩ := hf it (by simp)
    refine wpAny_pyNext_dict_item st (hd _ e1) hu fun key h' hk st' sb => ?_
    have I1 : Inv X pins σ H { s with heap := h' } := I.turned (t' := s.toks) (fun b o hb e => (sb.2 b hb).trans e) f0 f1 f3 f4 f5
    obtain ⟨oi, e, c, dd⟩ := id st'
    exact ⟨key, rfl, go_of (s := { s with heap := h' }) e c dd (by decide) ⟨kV k, H, I1, kV_back hk, ⟨rfl, k, y, hx, rfl⟩, st', fun b hb => (hf b hb).1⟩⟩
  done := by
    intro X hP hw hK hc i pins s σ H E I hf st hg
    subst hP hw hK
    obtain ⟨hH, hge⟩ := hg
    obtain ⟨e1, _⟩ := I.hok d _ hH
    have hlen : kvs.length = vs.length := Paired.length rel
    obtain ⟨f0, f1, f2, f3, f4, f5⟩ := hf it (by simp)
    exact wpAny_pyNext_dict_end (I.ok.hd hc) st (hd _ e1) (List.getElem?_eq_none (by omega)) fun h' eb => ⟨rfl, I.turned (t' := s.toks) (fun b o hb e => eb b o hb e) f0 f1 f3 f4 f5⟩
  self := fun _ _ _ _ _ st h => wpAny_pyIter_keyiter st h
section
variable {X : Cx}
def iKeys (to : TE) : TI := fun σ H R => to σ H fun x H1 => ∃ d kvs, x = .ref d ∧ H1 d = some (.dK kvs) ∧ ∀ o, R (Itk d o kvs) (upd H1 d (.frz o (.dK kvs)))
theorem pi_keys {tg o : Expr} {to : TE} (ho : PE X o to) : PI X tg o (iKeys to) := by
  intro pins s σ H R I h
  refine thn (ho pins s σ H _ I h) fun v s1 ⟨x, H1, I1, r1, d, kvs, e, hd, q⟩ => ?_
  subst e
  cases r1
  obtain ⟨z, hs, vs, rel, dd⟩ := dk_of I1.hok hd
  obtain ⟨ep, da⟩ := dd.dictAt
  obtain ⟨ob, es, hob, dr⟩ := id da
  refine wpAny_pyIter_dict (knd := mixKind X.prog X.w) (d := d) (kvs := vs) (ep := ep) hs ⟨ob, es, hob, dr⟩ ?_
  have I3 := I1.kept (h' := s1.heap.push { cls := .type "dict_keyiterator", data := .fields #[.ref d, .int 0 0, .int vs.length 0, .int ep 0] }) (t' := s1.toks) fun b u e => Heap.get?_push_of_some _ e
  have hob3 := Heap.get?_push_of_some (h := s1.heap) { cls := .type "dict_keyiterator", data := .fields #[.ref d, .int 0 0, .int vs.length 0, .int ep 0] } hob
  have I4 := I3.write (x := d) (e := d) (o := .frz ob (.dK kvs)) (t' := s1.toks) (by rw [hd]; trivial) (.inl rfl) (fun b u _ q => q) ⟨_, hob3⟩
    (show ObjOk X.prog X.w _ _ d (.frz ob (.dK kvs)) from ⟨hob3, z, hs, vs, rel, ob, es, ep, hob3, dr⟩)
  have hlt : d < s1.heap.objs.size := Heap.lt_size hob
  refine ⟨s1.heap.objs.size, [s1.heap.objs.size], _, _, _, rfl, I4,
    turn_keys d _ ob kvs vs ep rel (Nat.ne_of_lt hlt) (fun h e => ⟨ob, es, e, dr⟩), ⟨_, Heap.get?_push_size _ rfl, rfl, rfl⟩, fun b hb => ?_, q ob⟩
  have e : b = s1.heap.objs.size := by simpa using hb
  subst e
  exact I1.fpOk (Nat.le_refl _) (by rw [upd_ne (Nat.ne_of_gt hlt)]; exact I1.hok.fresh (Nat.le_refl _))
end
end L2
set_option Elab.async false
set_option linter.all false
set_option maxRecDepth 100000
set_option maxHeartbeats 4000000
namespace HT
open PySem PySem.Spec PyProof.Rows L2
section
variable {prog : Program} {w : World} {A : Around} {E : Value → Shared → Prop} {s : Shared}
theorem cat_tup0 {t b : Addr} {ws : List Value} {Q : Value → Shared → Prop} (ht : IsTup s.heap t ([] : List Value).toArray) (hb : IsTup s.heap b ws.toArray) (h1 : Q (.ref b) s) : wpAny (model prog w) A (binaryOp .Add (.ref t) (.ref b)) Q E s := by
  obtain ⟨⟨cls, dd, data, sl⟩, ho, hc, n, hd⟩ := id ht
  obtain ⟨⟨cls2, dd2, data2, sl2⟩, ho2, hc2, n2, hd2⟩ := id hb
  simp only at hc hd hc2 hd2
  subst hc hd hc2 hd2
  exact concat_meets ⟨_, ho, rfl⟩ ⟨_, ho2, rfl⟩ noFill_tuple_add seq_tuple_add PySem.F.slot_tuple_add PySem.F.entry_tuple_add (PySem.F.args_tuple_add_2 _ _)
      (tuple_addW0 t b ([] : List Value).toArray ws.toArray n n2 dd dd2 sl sl2 rfl) ⟨ho, ho2, h1⟩
theorem getItem_tuple_whole {t sl : Addr} {items : Array Value} {vl vu : Value} {lo hi : Option Int} {Q : Value → Shared → Prop} (ht : IsTup s.heap t items) (hs : s.heap.IsSliceOf sl vl vu .none) (pl : IsPart vl lo) (pu : IsPart vu hi)
    (hw : sIx items.size 0 lo = 0 ∧ sIx items.size items.size hi = items.size)
    (h : Q (.ref t) s) : wpAny (model prog w) A (getItem (.ref t) (.ref sl)) Q E s := by
  obtain ⟨os, hos, hcs, hds⟩ := id hs
  have hTs : s.TypeIs (.ref sl) "slice" := ⟨os, hos, hcs⟩
  unfold getItem
  try with_reducible refine wpAny_holding ?_
  first | refine wpAny_bind (wpAny_pure ?_) | skip
  refine wpAny_bind (wpAny_sequenceKey ht.typeIs (by decide) ?_)
  refine wpAny_bind (wpAny_callSpecial?_slot (name := Str.ofString "__getitem__") ht.typeIs PyProof.Rows.slot_tuple_getitem
    (wpAny_call_entry PyProof.Rows.slot_tuple_getitem ht.typeIs entry_tuple_getitem ?_ (args_tuple_getitem _ _)))
  show wpAny _ _ (Builtin.Tuple.tupleItemsOf (.ref t) >>= _) _ _ s
  refine wpAny_bind (tupleItemsOf_ ht ?_)
  refine wpAny_bind (wpAny_typeOf hTs ?_)
  rw [if_pos (by decide)]
  refine wpAny_bind (sliceApplied_gen hs pl pu ?_)
  have hyes : (((sIx items.size 0 lo : Nat) : Int) == 0 && (1 : Int) == 1 && (sIx items.size items.size hi - sIx items.size 0 lo) == items.size) = true := by
    rw [hw.1, hw.2]; simp
  show wpAny _ _ (if (((sIx items.size 0 lo : Nat) : Int) == 0 && (1 : Int) == 1 && (sIx items.size items.size hi - sIx items.size 0 lo) == items.size) = true then _ else _) _ _ s
  rw [if_pos hyes]
  refine wpAny_bind (wpAny_bind (wpAny_typeOf ht.typeIs (wpAny_pure ?_)))
  rw [if_pos (by decide)]
  refine wpAny_bind (wpAny_rule ?_)
  first
    | exact wpAny_bind (wpAny_pure (wpAny_pure ⟨_, rfl, wpAny_pure h⟩))
    | exact wpAny_pure ⟨_, rfl, wpAny_pure h⟩
    | exact wpAny_bind (wpAny_pure ⟨_, rfl, wpAny_pure h⟩)
end
end HT
namespace L2
open PySem PySem.Spec PyProof.Rows
section
variable {X : Cx}
def rCat0 (K : PySem.W.Frag) : R2 := fun x y H Q => ∃ a b ys, x = .ref a ∧ y = .ref b ∧ SqT K H a [] ∧ SqT K H b ys ∧ Q (.ref b) H
theorem op_cat0 : OpR X (binaryOp .Add) (rCat0 X.K) := by
  intro pins s σ H x y v u Q I rx ry h
  obtain ⟨a, b, ys, rfl, rfl, ha, hb, q⟩ := h
  cases rx
  cases ry
  obtain ⟨its, r1, p1, _⟩ := I.tuple ha
  obtain ⟨its2, r2, p2, _⟩ := I.tuple hb
  have : its = [] := by cases r1; rfl
  subst this
  exact HT.cat_tup0 p1 p2 ⟨.ref b, H, I, rfl, q⟩
def rSlW (K : PySem.W.Frag) : V → Option Int → Option Int → Hp → VK → Prop := fun x lo hi H Q => ∃ a xs, x = .ref a ∧ SqT K H a xs ∧
  (HT.sIx xs.length 0 lo = 0 ∧ HT.sIx xs.length xs.length hi = xs.length) ∧ Q (.ref a) H
theorem sl_tupW : SlR X (rSlW X.K) := by
  intro pins s σ H x v vl vu lo hi sl Q I rx hs pl pu h
  obtain ⟨a, xs, rfl, hx, hw, q⟩ := h
  cases rx
  obtain ⟨its, r, ht, hz⟩ := I.tuple hx
  have hlen : its.toArray.size = xs.length := by rw [List.size_toArray]; exact r.length.symm
  refine ⟨"tuple", _, PyProof.Rows.slot_tuple_getitem.lookup, ht.typeIs, ?_⟩
  exact HT.getItem_tuple_whole ht hs pl pu (by rw [hlen]; exact hw) ⟨.ref a, H, I, rfl, q⟩
end
end L2
set_option Elab.async false
set_option linter.all false
set_option maxRecDepth 100000
set_option maxHeartbeats 4000000
namespace HT
open PySem PySem.Spec PyProof.Rows L2
section
variable {prog : Program} {w : World} {K : Type} [DecidableEq K] {knd : KeyKind prog w K} {A : Around} {E : Value → Shared → Prop} {s : Shared}
end
section
variable {prog : Program} {w : World} {A : Around} {E : Value → Shared → Prop} {s : Shared}
end
section
variable {prog : Program} {w : World} {K : Type} [DecidableEq K] {knd : KeyKind prog w K} {A : Around} {E : Value → Shared → Prop} {s : Shared}
end
end HT
namespace L2
open PySem PySem.Spec PyProof.Rows
section
variable {X : Cx}
end
end L2
set_option Elab.async false
set_option linter.all false
set_option maxRecDepth 100000
set_option maxHeartbeats 4000000
namespace L2
open PySem PySem.Spec PyProof.Rows
section
variable {X : Cx}
def FT (x : V) (H : Hp) : Prop := ∃ p o xs, x = .ref p ∧ H p = some (.frz o (.tup xs)) ∧ o.dict = none
theorem FT.is {pins : List (Addr × Obj)} {σ : St} {H : Hp} {s : Shared} {x : V} {v : Value} (I : Inv X pins σ H s) (r : RelV x v) (h : FT x H) :
    s.TypeIs v "tuple" ∧ ∀ a, v = .ref a → ∃ ob, s.heap.get? a = some ob ∧ ob.dict = none := by
  obtain ⟨p, o, xs, rfl, h1, h2⟩ := h
  cases r
  obtain ⟨e, _, its, _, o', e', c, n, d⟩ := I.hok p _ h1
  rw [e] at e'
  cases e'
  exact ⟨⟨o, e, c⟩, fun a ea => by cases ea; exact ⟨o, e, h2⟩⟩
variable {o e : Expr} {es : List Expr} {to : TE} {t : TA} {name : Str} {apos cpos : Pos} {T id : String} {r : V → List V → Hp → VK → Prop}
def isN (n : Int) : Value → Bool
  | .int m _ => m == n
  | _ => false
end
end L2
set_option Elab.async false
set_option linter.all false
set_option maxRecDepth 100000
set_option maxHeartbeats 4000000
namespace L2
open PySem PySem.Spec PyProof.Rows
section
variable {prog : Program} {w : World} {A : Around} {R : Result → Shared → Prop} {s : Shared}
theorem compLoop_tests {elt target iter : Expr} {ifs : List Expr} {scope : Scope} {pos : Pos} {it acc : Value} {env : Env} (I : Nat → Shared → Prop)
    (turn : ∀ n s, I n s → wpAny (model prog w) A (pyNext it) (fun r s₁ => match r with
      | none => R (.ok .next) s₁
      | some v => wpAny (model prog w) A (letOwnedTupleGo target it v) (fun _ s₀ => wpAny (model prog w) A (assign target env v) (fun _ s₂ =>
          wpAny (model prog w) A (forIn ifs true fun c r => if r = true then do let ok ← isTrue c env (eval c env); pure (ForInStep.yield ok) else pure (ForInStep.yield r)) (fun ok s₃ =>
            if ok = true then wpAny (model prog w) A (eval elt env) (fun x s₄ =>
              wpAny (model prog w) A (call (.builtin "list.append") [acc, x]) (fun _ s₅ => ∃ m, m < n ∧ I m s₅) (notedBy (model prog w) A env fun e s' => R (.error e) s') s₄) (notedBy (model prog w) A env fun e s' => R (.error e) s') s₃
            else ∃ m, m < n ∧ I m s₃) (notedBy (model prog w) A env fun e s' => R (.error e) s') s₂) (notedBy (model prog w) A env fun e s' => R (.error e) s') s₀) (notedBy (model prog w) A env fun e s' => R (.error e) s') s₁) (notedBy (model prog w) A env fun e s' => R (.error e) s') s)
    (n : Nat) (h : I n s) : codeAny (model prog w) A (.compLoop (.ListComp elt [⟨target, iter, ifs, 0⟩] scope pos) 0 it acc env) R s := by
  refine codeAny_loop rfl I (fun n s hI => ?_) n h
  show wpAny _ A ((compTurn (.ListComp elt [⟨target, iter, ifs, 0⟩] scope pos) 0 it acc env).onRaise (fun x => do noteFrame x env; theTreesLotGoes x)) _ _ s
  refine wpAny_noted ?_
  rw [compTurn_list]
  refine wpAny_bind (wpAny_standAt (wpAny_bind (wpAny_mono (turn n s hI) (fun r s₁ h₁ => ?_) fun _ _ h' => h')))
  cases r with
  | none => exact wpAny_pure h₁
  | some v =>
    refine wpAny_bind (wpAny_mono h₁ (fun _ s₀ h₀ => ?_) fun _ _ h' => h')
    refine wpAny_bind (wpAny_mono h₀ (fun _ s₂ h₂ => wpAny_bind (wpAny_mono h₂ (fun ok s₃ h₃ => ?_) fun _ _ h' => h')) fun _ _ h' => h')
    cases ok with
    | false => exact wpAny_pure ⟨rfl, h₃⟩
    | true =>
      exact wpAny_bind (wpAny_bind (wpAny_mono h₃ (fun x s₄ h₄ => wpAny_bind (wpAny_mono h₄ (fun _ s₅ h₅ => wpAny_pure (wpAny_pure ⟨rfl, h₅⟩)) fun _ _ h' => h')) fun _ _ h' => h'))
end
def bN2 (N : List Str) (ts : List Str) (ix : List Nat) : List Str := ts ++ ix.map fun i => N.getD i Str.empty
def bS2 (σ : St) (o : List (Option V)) (ix : List Nat) : St := o ++ ix.map fun i => (σ[i]?).getD none
section
variable {X : Cx}
theorem comp_blk2 {elt iter : Expr} {x : Str} {ts : List Str} {tg : Expr} {gt : TG} {pos : Pos} {scope : Scope} {te : TE} {tt : TT} {ifs : List Expr} {ix : List Nat} {pins : List (Addr × Obj)} {s : Shared} {σ : St} {H : Hp} {cl : List (Str × Addr)}
    {J : It} {fp : List Addr} {it : Addr} {tn : Nat → Heap → Prop} {E : Value → Shared → Prop} {RR : Value → Addr → Result → Shared → Prop} {G : List V → Hp → Prop}
    (I : Inv X pins σ H s) (hc : X.calm = true) (B : BlkScope X.env scope x) (h1 : ∀ y c, cl.lookup y = some c → X.env.cells.lookup y = some c) (h3 : ∀ y ∈ scope.names, y.2 = .free → ∃ c, cl.lookup y.1 = some c)
    (hix : ∀ i ∈ ix, ∃ y, X.N[i]? = some y ∧ scope.names.lookup y = some .free) (hN : (bN2 X.N ts ix).Nodup)
    (T : Turn X.prog X.w X.K tg J fp it tn) (st : tn 0 s.heap) (hf : ∀ b ∈ fp, FpOk X pins H b)
    (hg : ∀ cl C s₀ H₀ fp, PG (cxBlk X scope cl C (bN2 X.N ts ix) s₀ H₀ fp) tg gt)
    (he : ∀ cl C s₀ H₀ fp, PE (cxBlk X scope cl C (bN2 X.N ts ix) s₀ H₀ fp) elt te)
    (hi : ∀ cl C s₀ H₀ fp, PIfs (cxBlk X scope cl C (bN2 X.N ts ix) s₀ H₀ fp) ifs tt)
    (W : Nat → Nat → List V → Hp → Prop) (m₀ : Nat) (w0 : W 0 m₀ [] H)
    (turn : ∀ i m ys H, W i m ys H → (J.stop i H ∧ ys.length ≤ sizeLine ∧ G ys H) ∨ (J.go i H ∧ ys.length < sizeLine ∧ ∀ v H', J.yld i H v H' → ∀ o : List (Option V), o.length = ts.length → gt v (bS2 σ o ix) H' fun σ2 H2 => ∃ o2 : List (Option V), σ2 = bS2 σ o2 ix ∧ o2.length = ts.length ∧
        tt σ2 H2 fun b H1 => if b = true then te σ2 H1 fun y H2 => ∃ m', m' < m ∧ W (i + 1) m' (ys ++ [y]) H2 else ∃ m', m' < m ∧ W (i + 1) m' ys H1))
    (hRR : ∀ D C s' ys H', Inv X pins σ (upd H' D (.lst ys)) s' → H' D = none → H' C = none → (∃ m, s'.heap.Ns C m) → s.heap.objs.size ≤ C → D ≠ C → G ys H' → RR (.ref D) C (.ok .next) s') :
    wpAny (model X.prog X.w) X.A (newList []) (fun acc s₃ => wpAny (model X.prog X.w) X.A (newFunctionEnv scope X.env.globals cl [] X.env.qual none .none (some X.env)) (fun cenv s₄ =>
      codeAny (model X.prog X.w) X.A (.compStart (.ListComp elt [⟨tg, iter, ifs, 0⟩] scope pos) 0 (.ref it) acc { cenv with scope := relabel scope X.env }) (RR acc cenv.locals) s₄) E s₃) E s := by
  have hl : ∀ b ∈ fp, b < s.heap.objs.size := fun b hb => by obtain ⟨o, e, _⟩ := T.obj 0 _ st b hb; exact Heap.lt_size e
  refine wpAny_newObj_type (wpAny_newFunctionEnv B.cells (by intro y hy; simp at hy) (fun h₁ hns₁ hsb₁ => ?_) B.kind)
  dsimp only at hns₁ hsb₁ ⊢
  generalize hH2 : s.heap.push { cls := .type "list", dict := none, data := .seq ([] : List Value).toArray } = H2 at hns₁ hsb₁ ⊢
  have hC : H2.objs.size = s.heap.objs.size + 1 := by rw [← hH2, Heap.size_push]
  generalize hD : s.heap.objs.size = D at hC hl hRR ⊢
  generalize hCC : H2.objs.size = C at hC hns₁ hsb₁ ⊢
  have hDC : D ≠ C := by omega
  have old : ∀ b o, s.heap.get? b = some o → h₁.get? b = some o := fun b o e => hsb₁.extBut b o (Nat.ne_of_lt (by have z := Heap.lt_size e; rw [hD] at z; exact Nat.lt_of_lt_of_le z (by rw [hC]; exact Nat.le_succ _))) (Heap.get?_push_of_some _ (hH2 ▸ Heap.get?_push_of_some _ e))
  have hacc : h₁.get? D = some { cls := .type "list", data := .seq ([] : List Value).toArray 0 } := hsb₁.extBut _ _ hDC (Heap.get?_push_of_some _ (hH2 ▸ (by rw [← hD]; exact Heap.get?_push_size _ rfl)))
  have hfr : ∀ a, D ≤ a → s.heap.get? a = none := fun a ha => by
    cases e : s.heap.get? a with
    | none => rfl
    | some o => exact absurd (Heap.lt_size e) (by rw [hD]; exact Nat.not_lt.mpr ha)
  have hHn : ∀ a, D ≤ a → H a = none := fun a ha => I.hok.fresh (by omega)
  have ok : (cxBlk X scope cl C (bN2 X.N ts ix) s H fp).Ok := blk_ok I B h1 h3 (by omega) hf (by rw [hD]; exact hl)
  generalize hK : cxBlk X scope cl C (bN2 X.N ts ix) s H fp = K at ok
  have kp : K.prog = X.prog := by rw [← hK]; rfl
  have kw : K.w = X.w := by rw [← hK]; rfl
  have kK : K.K = X.K := by rw [← hK]; rfl
  have kA : K.A = X.A := by rw [← hK]; rfl
  have kc : K.calm = true := by rw [← hK]; exact hc
  have kN : K.N = bN2 X.N ts ix := by rw [← hK]; rfl
  have kenv : K.env = compEnvC scope cl C X.env := by rw [← hK]; rfl
  have kloc : K.env.locals = C := by rw [← hK]; rfl
  have kfs : K.fs = frs X.stack := by rw [← hK]; rfl
  have kex : K.ex = fp := by rw [← hK]; rfl
  have kpn : K.pn = [] := by rw [← hK]; rfl
  have ks : K.s₀ = s := by rw [← hK]; rfl
  have kH : K.H₀ = H := by rw [← hK]; rfl
  have kx : K.xe = fun _ _ => False := by rw [← hK]; rfl
  have kcl : K.env.cells = cl := by rw [← hK]; rfl
  have cellLt : ∀ y c, cl.lookup y = some c → c < D := fun y c q => by obtain ⟨v, z⟩ := I.cell y c (h1 y c q); rw [← hD]; exact z.lt
  have stkLt : ∀ b ∈ frs X.stack, b < D := fun b hb => by
    rcases List.mem_cons.mp (I.stkSub b hb) with q | q
    · rw [q, ← hD]; exact I.lt
    · rcases Nat.lt_or_ge b D with z | z
      · exact z
      · exact absurd q (I.nofs (by omega))
  -- the state at the block's begin
  have I0 : ∀ tk, Inv K [(D, { cls := .type "list", data := .seq ([] : List Value).toArray 0 })] (bS2 σ (ts.map fun _ => none) ix) H { s with heap := h₁, toks := tk } := fun tk => by
    refine ⟨ok, by rw [ks], I.bare, by rw [ks, kH]; exact Un.kept old, ?_, ?_, ?_, ?_, ?_, by rw [kp, kw]; exact I.hok.kept old, ?_⟩
    · refine ⟨_, by rw [kloc]; exact hns₁, fun i y v e1 e2 e3 => ?_⟩
      rw [kN] at e1
      by_cases hlt : i < ts.length
      · unfold bS2 at e2
        rw [List.getElem?_append_left (by simpa using hlt), List.getElem?_map] at e2
        cases hts : ts[i]? with
        | none => rw [hts] at e2; cases e2
        | some y' => rw [hts] at e2; have e2 : (some (none : Option V)) = some (some v) := e2; cases e2
      · obtain ⟨i, rfl⟩ : ∃ i', i = ts.length + i' := ⟨i - ts.length, by omega⟩
        have e1' : (ix.map fun i => X.N.getD i Str.empty)[i]? = some y := by
          unfold bN2 at e1
          rw [List.getElem?_append_right (by omega), show ts.length + i - ts.length = i by omega] at e1
          exact e1
        have e2' : (ix.map fun i => (σ[i]?).getD none)[i]? = some (some v) := by
          unfold bS2 at e2
          rw [List.getElem?_append_right (by rw [List.length_map]; omega), List.length_map, show ts.length + i - ts.length = i by omega] at e2
          exact e2
        rw [List.getElem?_map] at e1' e2'
        cases q : ix[i]? with
        | none => rw [q] at e1'; cases e1'
        | some j =>
          rw [q] at e1' e2'
          obtain ⟨y', a1, a2⟩ := hix j (List.mem_of_getElem? q)
          have a3 : X.N.getD j Str.empty = y' := by simp [List.getD, a1]
          have ey : y' = y := by rw [← a3]; exact Option.some.inj e1'
          subst ey
          have es : σ[j]? = some (some v) := by
            have z : (σ[j]?).getD none = some v := Option.some.inj e2'
            cases w : σ[j]? with
            | none => rw [w] at z; cases z
            | some o => rw [w] at z; have z' : o = some v := z; rw [z']
          obtain ⟨m, hn, hlk⟩ := I.loc
          have hk := B.free (y', .free) (PySem.mem_of_lookup a2) rfl
          have hk : X.env.kindOf y' = some .cell ∨ X.env.kindOf y' = some .free := hk
          have vis : Vis X.env.scope y' := hk.elim (fun z => .inr (.inl z)) fun z => .inr (.inr z)
          obtain ⟨u, ru, lk⟩ := hlk j y' v a1 es vis
          refine ⟨u, ru, ?_⟩
          rcases lk with ⟨k, _⟩ | ⟨_, c, ec, ce⟩
          · rcases hk with z | z <;> (rw [k] at z; cases z)
          · obtain ⟨c', ec'⟩ := h3 (y', .free) (PySem.mem_of_lookup a2) rfl
            have ec' : cl.lookup y' = some c' := ec'
            have : c' = c := Option.some.inj ((h1 y' c' ec').symm.trans ec)
            subst this
            refine .inr ⟨?_, c', by rw [kcl]; exact ec', ?_⟩
            · show K.env.scope.names.lookup y' = _ ∨ K.env.scope.names.lookup y' = _
              rw [kenv]
              exact lookup_relabel_free a2
            · obtain ⟨oc, hoc, r⟩ := ce
              exact ⟨oc, old _ _ hoc, r⟩
    · intro y c q
      rw [kcl] at q
      obtain ⟨v, oc, hoc, r⟩ := I.cell y c (h1 y c q)
      exact ⟨v, oc, old _ _ hoc, r⟩
    · rw [kloc]; exact hHn _ (by omega)
    · intro y c q
      rw [kcl] at q
      exact I.freeC y c (h1 y c q)
    · intro p hp
      rw [kpn] at hp
      have e : p = (D, { cls := .type "list", data := .seq ([] : List Value).toArray 0 }) := by simpa using hp
      subst e
      refine ⟨hacc, hHn _ (Nat.le_refl _), by rw [kloc]; exact hDC, ?_, fun v z => ?_⟩
      · rw [kfs]; intro z; exact absurd (stkLt D z) (Nat.lt_irrefl _)
      · have z' : Data.seq _ _ = Data.cell v := z
        cases z'
    · rw [kN]; simp [bS2, bN2]
  have stat : ∀ {H' : Hp} {ob : Obj}, (∀ b ∈ fp, H' b = none) → ∀ b ∈ fp, FpOk K [(D, ob)] H' b := fun {H' ob} hn b hb => by
    refine ⟨hn b hb, ?_, ?_, .inl (by rw [kex]; exact hb), ?_, ?_⟩
    · rw [kloc]; exact Nat.ne_of_lt (Nat.lt_of_lt_of_le (hl b hb) (by rw [hC]; exact Nat.le_succ _))
    · rw [kfs]; intro z
      rcases List.mem_cons.mp (I.stkSub b z) with q | q
      · exact (hf b hb).2.1 q
      · exact (hf b hb).2.2.1 q
    · intro y c q; rw [kcl] at q; exact (hf b hb).2.2.2.2.1 y c (h1 y c q)
    · intro p hp; rw [kpn] at hp
      have e : p = (D, ob) := by simpa using hp
      subst e
      exact Nat.ne_of_gt (hl b hb)
  have st₁ : tn 0 h₁ := T.keep _ _ _ st fun b hb o e => old b o e
  have loop : ∀ tk, codeAny (model X.prog X.w) X.A (.compLoop (.ListComp elt [⟨tg, iter, ifs, 0⟩] scope pos) 0 (.ref it) (.ref D) (compEnvC scope cl C X.env)) (RR (.ref D) C) { s with heap := h₁, toks := tk } := by
    intro tk
    refine compLoop_tests (fun n s' => ∃ i o H' ys its c, o.length = ts.length ∧ Inv K [(D, { cls := .type "list", data := .seq (its : List Value).toArray c })] (bS2 σ o ix) H' s' ∧ Vals ys its ∧ tn i s'.heap ∧ (∀ b ∈ fp, H' b = none) ∧ W i n ys H') ?_ m₀
      ⟨0, ts.map (fun _ => none), H, [], [], 0, by simp, I0 tk, .nil, st₁, fun b hb => (hf b hb).1, w0⟩
    rintro n s1 ⟨i, o, H1, ys, its, c, ol, I1, rv, t1, f1, w1⟩
    rcases turn i n ys H1 w1 with ⟨stop, hz, g⟩ | ⟨go, hz, step⟩
    · have dn := T.done K kp kw kK kc i _ s1 _ H1 (notedBy (model X.prog X.w) X.A (compEnvC scope cl C X.env) fun e s' => RR (.ref D) C (.error e) s') I1 (stat f1) t1 stop
      rw [kA] at dn
      refine thn dn fun r s2 ⟨hr, I2⟩ => ?_
      subst hr
      obtain ⟨p1, p2, p3, p4, p5⟩ := I2.pin (D, { cls := .type "list", data := .seq its.toArray c }) (List.mem_append_right _ (List.mem_singleton.mpr rfl))
      have u2 := I2.base
      rw [kfs, kex, kH, ks] at u2
      refine hRR D C s2 ys H1 ?_ p2 (by rw [← kloc]; exact I2.free) (by obtain ⟨m, hm, _⟩ := I2.loc; rw [kloc] at hm; exact ⟨m, hm⟩) (by omega) hDC g
      have hk2 : HOk X.prog X.w H1 s2.heap := by have := I2.hok; rw [kp, kw] at this; exact this
      refine I.call' (ch := fp) (by have := I2.os; rw [ks] at this; exact this) (u2.add (hfr D (Nat.le_refl _)) (hHn D (Nat.le_refl _))) (hk2.add p2 ⟨hz, its, c, rv, p1⟩) I2.bare fun b hb => ?_
      exact ⟨(hf b hb).2.2.2.1, (hf b hb).2.1, (hf b hb).2.2.2.2.1, (hf b hb).2.2.2.2.2⟩
    · have im := T.item K kp kw kK kc i _ s1 _ H1 (notedBy (model X.prog X.w) X.A (compEnvC scope cl C X.env) fun e s' => RR (.ref D) C (.error e) s') I1 (stat f1) t1 go
      rw [kA] at im
      refine thn im fun r s2 ⟨u, hr, h2⟩ => ?_
      subst hr
      refine thn h2 fun _ s3 ⟨v, H3, I3, r3, y3, t3, f3⟩ => ?_
      have q3 := step v H3 y3 o ol
      have I3' := I3.pinned (stat f3) (T.obj _ _ t3)
      have hg' := hg cl C s H fp
      rw [hK] at hg'
      have hgv := hg' _ s3 _ H3 v u _ I3' r3 q3
      rw [kx, kp, kw, kA, kenv] at hgv
      refine wpAny_mono hgv (fun _ s4 ⟨σ4, H4, I4, o4, e4, l4, q4⟩ => ?_) fun _ _ z => z.elim
      subst e4
      have hi' := hi cl C s H fp
      rw [hK] at hi'
      have hiv := hi' _ s4 _ H4 _ I4 q4
      rw [kx, kp, kw, kA, kenv] at hiv
      refine wpAny_mono hiv (fun ok s5 ⟨H5, I5, q5⟩ => ?_) fun _ _ z => z.elim
      have back : ∀ {H7 : Hp} {s7 : Shared} {o7 : List (Option V)}, Inv K ([(D, { cls := .type "list", data := .seq its.toArray c })] ++ pinsAt fp s3.heap) (bS2 σ o7 ix) H7 s7 → tn (i + 1) s7.heap ∧ ∀ b ∈ fp, H7 b = none := fun {H7 s7 o7} I7 => by
        refine ⟨T.keep _ _ _ t3 fun b hb o e => (I7.pin (b, o) (List.mem_append_right _ (List.mem_append_right _ (mem_pinsAt hb e)))).1, fun b hb => ?_⟩
        obtain ⟨ob, e, d⟩ := T.obj _ _ t3 b hb
        exact (I7.pin (b, ob) (List.mem_append_right _ (List.mem_append_right _ (mem_pinsAt hb e)))).2.1
      cases ok with
      | false =>
        rw [if_neg Bool.false_ne_true]
        have q5 : ∃ m', m' < n ∧ W (i + 1) m' ys H5 := q5
        obtain ⟨m', hm, w5⟩ := q5
        obtain ⟨b1, b2⟩ := back I5
        exact ⟨m', hm, i + 1, o4, H5, ys, its, c, l4, I5.unpinned, rv, b1, b2, w5⟩
      | true =>
        rw [if_pos rfl]
        have q5 : te (bS2 σ o4 ix) H5 fun y H2 => ∃ m', m' < n ∧ W (i + 1) m' (ys ++ [y]) H2 := q5
        have he' := he cl C s H fp
        rw [hK] at he'
        have hev := he' _ s5 _ H5 _ I5 q5
        rw [kx, kp, kw, kA, kenv] at hev
        refine wpAny_mono hev (fun y s6 ⟨yv, H6, I6, r6, m', hm, w6⟩ => ?_) fun _ _ z => z.elim
        obtain ⟨b1, b2⟩ := back I6
        have I6' := I6.unpinned
        obtain ⟨p1, p2, p3, p4, p5⟩ := I6'.pin (D, { cls := .type "list", data := .seq its.toArray c }) (List.mem_append_right _ (List.mem_singleton.mpr rfl))
        have hlen := rv.length
        refine call_meets F.slot_list_append ⟨_, p1, rfl⟩ F.entry_list_append (F.args_list_append_2 _ _) (PySem.list_append D its.toArray c y (by rw [List.size_toArray]; omega)) ⟨p1, ?_⟩
        have ea : its.toArray.push y = (its ++ [y]).toArray := by simp
        obtain ⟨c', q⟩ : ∃ c', (s6.heap.update D (Obj.mapSeq (·.push y))).get? D = some { cls := .type "list", data := .seq (its ++ [y]).toArray c' } := ⟨_, by rw [← ea]; exact PySem.IsL.update p1 (·.push y)⟩
        refine ⟨m', hm, i + 1, o4, H6, ys ++ [yv], its ++ [y], c', l4, ?_, rv.append (.cons r6 .nil), T.keep _ _ _ b1 fun b hb o e => ?_, b2, w6⟩
        · have Id : Inv K [] (bS2 σ o4 ix) H6 s6 := I6'.pins_of fun p hp => by simp at hp
          have It : Inv K [] (bS2 σ o4 ix) H6 { s6 with heap := s6.heap.update D (Obj.mapSeq (·.push y)) } := Id.turned (t' := s6.toks) (it := D) (fun b o hb e => (Heap.get?_update_other _ _ (Ne.symm hb)).trans e) p2 p3
            (.inr (by rw [ks]; omega)) (fun y' c' e => by rw [kcl] at e; exact Nat.ne_of_lt (cellLt y' c' e)) (fun p hp => by rw [kpn] at hp; simp at hp)
          refine It.pins_of fun p hp => ?_
          obtain rfl : p = (D, { cls := .type "list", data := .seq (its ++ [y]).toArray c' }) := by simpa using hp
          refine ⟨q, p2, p3, p4, fun v z => ?_⟩
          have z' : Data.seq _ _ = Data.cell v := z
          cases z'
        · exact (Heap.get?_update_other _ _ (Nat.ne_of_gt (hl b hb))).trans e
  have selfs : wpAny (model X.prog X.w) X.A (pyIter (.ref it)) (fun it' s' => codeAny (model X.prog X.w) X.A (.compLoop (.ListComp elt [⟨tg, iter, ifs, 0⟩] scope pos) 0 it' (.ref D) (compEnvC scope cl C X.env)) (RR (.ref D) C) s')
      (notedBy (model X.prog X.w) X.A (compEnvC scope cl C X.env) fun e s' => RR (.ref D) C (.error e) s') { s with heap := h₁, toks := s.toks + ([] : List (Str × Value)).length } := T.self X.A 0 _ _ _ st₁ (loop _)
  exact codeAny_compStart_list (loop _) selfs
def tComp2 (ts : List Str) (wi : TI) (gt : TG) (tt : TT) (te : TE) (ix : List Nat) : TE := fun σ H Q => wi σ H fun J H1 => ∃ (W : Nat → Nat → List V → Hp → Prop) (m₀ : Nat), W 0 m₀ [] H1 ∧
  ∀ i m ys H, W i m ys H → (J.stop i H ∧ ys.length ≤ sizeLine ∧ ∀ l, H l = none → Q (.ref l) (upd H l (.lst ys))) ∨ (J.go i H ∧ ys.length < sizeLine ∧ ∀ v H', J.yld i H v H' → ∀ o : List (Option V), o.length = ts.length → gt v (bS2 σ o ix) H' fun σ2 H2 => ∃ o2 : List (Option V), σ2 = bS2 σ o2 ix ∧ o2.length = ts.length ∧
    tt σ2 H2 fun b H1 => if b = true then te σ2 H1 fun y H2 => ∃ m', m' < m ∧ W (i + 1) m' (ys ++ [y]) H2 else ∃ m', m' < m ∧ W (i + 1) m' ys H1)
theorem pe_comp2 {elt iter : Expr} {x : Str} {ts : List Str} {tg : Expr} {gt : TG} {pos : Pos} {scope : Scope} {te : TE} {tt : TT} {wi : TI} {ifs : List Expr} (ix : List Nat) (hc : X.calm = true) (B : BlkScope X.env scope x)
    (hix : ∀ i ∈ ix, ∃ y, X.N[i]? = some y ∧ scope.names.lookup y = some .free) (hN : (bN2 X.N ts ix).Nodup) (hi : PI X tg iter wi)
    (hg : ∀ cl C s₀ H₀ fp, PG (cxBlk X scope cl C (bN2 X.N ts ix) s₀ H₀ fp) tg gt)
    (ht : ∀ cl C s₀ H₀ fp, PIfs (cxBlk X scope cl C (bN2 X.N ts ix) s₀ H₀ fp) ifs tt)
    (he : ∀ cl C s₀ H₀ fp, PE (cxBlk X scope cl C (bN2 X.N ts ix) s₀ H₀ fp) elt te)
    (hs : ∀ x, foldedSetIterable iter X.env x = pure x := by intro _; rfl) :
    PE X (.ListComp elt [⟨tg, iter, ifs, 0⟩] scope pos) (tComp2 ts wi gt tt te ix) := by
  intro pins s σ H Q I h
  obtain ⟨cl, hcl, h1, h3⟩ := closure_for (blk_free I B)
  rw [eval_ListComp]
  refine wpAny_comprehension_free (use := none) rfl hs hcl B.kind B.names (thn (hi pins s σ H _ I h) fun v s1 h1' => thn h1' fun itv s2 h2 => ?_)
  obtain ⟨it, fp, tn, J, H2, e, I2, T, st2, f2, W, m0, w0, turn⟩ := h2
  subst e
  refine comp_blk2 (G := fun ys H' => ∀ l, H' l = none → Q (.ref l) (upd H' l (.lst ys))) I2 hc B h1 h3 hix hN T st2 f2 hg he ht W m0 w0 turn fun D C s' ys H' I' hD hC hm hCs hDC g => ?_
  obtain ⟨m, hm⟩ := hm
  refine ⟨m, hm, fun h' hsb => ⟨.ref D, upd H' D (.lst ys), I2.blkGone I' hCs (by rw [upd_ne (Ne.symm hDC)]; exact hC) hsb, rfl, g D hD⟩⟩
end
end L2
set_option Elab.async false
set_option linter.all false
set_option maxRecDepth 100000
set_option maxHeartbeats 4000000
namespace HT
open PySem PySem.Spec PyProof.Rows L2
section
variable {prog : Program} {w : World} {A : Around} {E : Value → Shared → Prop} {s : Shared}
end
section
variable {prog : Program} {w : World} {A : Around} {E : Value → Shared → Prop} {s : Shared}
end
end HT
namespace L2
open PySem PySem.Spec PyProof.Rows
section
variable {X : Cx}
end
end L2
set_option Elab.async false
set_option linter.all false
set_option maxRecDepth 100000
set_option maxHeartbeats 4000000
namespace L2
open PySem PySem.Spec PyProof.Rows
open Builtin.Str (glued partsBetween occurrences tooLong strSub)
section
variable {X : Cx}
end
end L2
set_option Elab.async false
set_option linter.all false
set_option maxRecDepth 100000
set_option maxHeartbeats 4000000
namespace L2
open PySem PySem.Spec PyProof.Rows
section
variable {X : Cx}
end
end L2
set_option Elab.async false
set_option linter.all false
set_option maxRecDepth 100000
set_option maxHeartbeats 4000000
namespace HT
open PySem PySem.Spec PyProof.Rows L2
section
variable {prog : Program} {w : World} {A : Around} {E : Value → Shared → Prop} {s : Shared}
end
section
variable {prog : Program} {w : World} {A : Around} {E : Value → Shared → Prop} {s : Shared}
end
end HT
namespace L2
open PySem PySem.Spec PyProof.Rows
section
variable {X : Cx}
end
end L2
set_option Elab.async false
set_option linter.all false
set_option maxRecDepth 100000
set_option maxHeartbeats 4000000
namespace L2
open PySem PySem.Spec PyProof.Rows
open Builtin.Str (occurrences strSub subAt)
section
variable {X : Cx} {e : Expr} {te : TE} {lo hi st : Option Expr} {tl th ts : TO} {p2 pos : Pos}
end
end L2
set_option Elab.async false
set_option linter.all false
set_option maxRecDepth 100000
set_option maxHeartbeats 4000000
namespace Srt
open PySem PyProof.Rows
section
variable {prog : Program} {w : World} {A : Around} {E : Value → Shared → Prop} {s : Shared}
def nk (p : Keyed) : Int := numOf p.1
def isN (p : Keyed) : Prop := ∃ n t, p.1 = .int n t
theorem isN.eq {p : Keyed} (h : isN p) : ∃ t, p.1 = .int (nk p) t := by
  obtain ⟨n, t, e⟩ := h
  exact ⟨t, by unfold nk; rw [e]; rfl⟩
def leap : Bool → Keyed → Array Keyed → Nat → Nat → Nat → StateT SortSt Sem (Option Nat) := sortPriv% PySem.Builtin.gallop
def pv (left : Bool) (key : Keyed) (xs : Array Keyed) (b i : Nat) : Bool := if left then decide (K xs (b + i) < nk key) else !decide (nk key < K xs (b + i))
variable {st : SortSt} {left : Bool} {key : Keyed} {xs : Array Keyed} {b n hint : Nat}
end
end Srt
set_option Elab.async false
set_option linter.all false
set_option maxRecDepth 100000
set_option maxHeartbeats 4000000
namespace Srt
open PySem PyProof.Rows
def Inc (l : List Keyed) : Prop := l.Pairwise fun p q => nk p ≤ nk q
structure Mg (X Y : List Keyed) (i j : Nat) (O : List Keyed) : Prop where
  perm : O.Perm (X.take i ++ Y.take j)
  inc : Inc O
  le : ∀ p ∈ O, ∀ q, (q ∈ X.drop i ∨ q ∈ Y.drop j) → nk p ≤ nk q
theorem Inc.drop {l : List Keyed} (h : Inc l) (k : Nat) : Inc (l.drop k) := List.Pairwise.sublist (List.drop_sublist _ _) h
theorem Inc.take {l : List Keyed} (h : Inc l) (k : Nat) : Inc (l.take k) := List.Pairwise.sublist (List.take_sublist _ _) h
theorem Inc.split {l : List Keyed} (h : Inc l) (k : Nat) : ∀ p ∈ l.take k, ∀ q ∈ l.drop k, nk p ≤ nk q := by
  have : Inc (l.take k ++ l.drop k) := by rw [List.take_append_drop]; exact h
  exact (List.pairwise_append.mp this).2.2
def Out (X Y O : List Keyed) : Prop := O.Perm (X ++ Y) ∧ Inc O
theorem Mg.start {X Y : List Keyed} : Mg X Y 0 0 [] := ⟨by simp, List.Pairwise.nil, fun p hp => nomatch hp⟩
theorem K_nk {x : Array Keyed} {i : Nat} (h : i < x.size) : K x i = nk x[i] := by
  unfold K
  rw [Array.getElem?_eq_getElem h]; rfl
structure Keep (st st' : SortSt) : Prop where
  k : kindOf st' = kindOf st
  a : arrOf st' = arrOf st
  p : pendingOf st' = pendingOf st
  f : failedOf st' = failedOf st
theorem Keep.refl (st : SortSt) : Keep st st := ⟨rfl, rfl, rfl, rfl⟩
section
variable {prog : Program} {w : World} {A : Around} {E : Value → Shared → Prop} {s : Shared} {st : SortSt} {x y : Array Keyed}
theorem Keep.trans {a b c : SortSt} (h : Keep a b) (k : Keep b c) : Keep a c := ⟨k.k.trans h.k, k.a.trans h.a, k.p.trans h.p, k.f.trans h.f⟩
abbrev R1 := Option (Array Keyed) × Array Keyed × Nat × Nat × Nat × Nat
end
end Srt
set_option Elab.async false
set_option linter.all false
set_option maxRecDepth 100000
set_option maxHeartbeats 4000000
namespace Srt
open PySem PyProof.Rows
structure Mh (X Y : List Keyed) (i j : Nat) (R : List Keyed) : Prop where
  perm : R.Perm (X.drop i ++ Y.drop j)
  inc : Inc R
  le : ∀ p, (p ∈ X.take i ∨ p ∈ Y.take j) → ∀ q ∈ R, nk p ≤ nk q
theorem Mh.end1 {X Y R : List Keyed} {i j : Nat} (h : Mh X Y i j R) (hX : Inc X) (hY : Inc Y) (hc : ∀ p ∈ Y.take j, ∀ q ∈ X.take i, nk p ≤ nk q) : Out X Y (Y.take j ++ X.take i ++ R) := by
  refine ⟨?_, List.pairwise_append.mpr ⟨List.pairwise_append.mpr ⟨hY.take j, hX.take i, hc⟩, h.inc, fun p hp q hq => h.le p ((List.mem_append.mp hp).symm) q hq⟩⟩
  refine (List.Perm.append_left _ h.perm).trans ?_
  have e : X ++ Y = X.take i ++ X.drop i ++ (Y.take j ++ Y.drop j) := by rw [List.take_append_drop, List.take_append_drop]
  rw [e]
  have e2 : Y.take j ++ X.take i ++ (X.drop i ++ Y.drop j) = Y.take j ++ (X.take i ++ X.drop i) ++ Y.drop j := by simp only [List.append_assoc]
  rw [e2, ← List.append_assoc (X.take i ++ X.drop i)]
  exact List.Perm.append_right _ List.perm_append_comm
section
variable {prog : Program} {w : World} {A : Around} {E : Value → Shared → Prop} {s : Shared} {st : SortSt} {x y : Array Keyed}
end
end Srt
set_option Elab.async false
set_option linter.all false
set_option maxRecDepth 100000
set_option maxHeartbeats 4000000
namespace Srt
open PySem PyProof.Rows
section
variable {prog : Program} {w : World} {A : Around} {E : Value → Shared → Prop} {s : Shared} {st : SortSt}
structure Ok (st : SortSt) : Prop where
  k : kindOf st = oneType'
  n : ∀ p ∈ (arrOf st).toList, isN p
  f : failedOf st = none
end
end Srt
set_option Elab.async false
set_option linter.all false
set_option maxRecDepth 100000
set_option maxHeartbeats 4000000
namespace Srt
open PySem PyProof.Rows
structure SB (lo : Nat) (st0 st : SortSt) : Prop where
  ok : Ok st
  perm : (arrOf st).Perm (arrOf st0)
  pend : pendingOf st = pendingOf st0
  pre : ∀ k, k < lo → (arrOf st)[k]? = (arrOf st0)[k]?
theorem SB.size {lo : Nat} {st0 st : SortSt} (h : SB lo st0 st) : (arrOf st).size = (arrOf st0).size := h.perm.size_eq
def SF (a : Array Keyed) (lo k : Nat) : Prop := ∀ i j, i ≤ j → j < k → K a (lo + i) ≤ K a (lo + j)
section
variable {prog : Program} {w : World} {A : Around} {E : Value → Shared → Prop} {s : Shared} {st st0 : SortSt} {lo : Nat}
end
end Srt
set_option Elab.async false
set_option linter.all false
set_option maxRecDepth 100000
set_option maxHeartbeats 4000000
namespace Srt
open PySem PyProof.Rows
section
variable {prog : Program} {w : World} {A : Around} {E : Value → Shared → Prop} {s : Shared} {st st0 : SortSt} {lo : Nat}
def NI (a : Array Keyed) (lo k : Nat) : Prop := ∀ i j, i ≤ j → j < k → K a (lo + j) ≤ K a (lo + i)
theorem SF.one {a : Array Keyed} {lo : Nat} : SF a lo 1 := fun i j hij hj => by
  have : i = j := by omega
  subst this; exact Int.le_refl _
theorem SF.more {a : Array Keyed} {lo n : Nat} (h : SF a lo n) (h1 : 1 ≤ n) (hn : ¬ K a (lo + n) < K a (lo + n - 1)) : SF a lo (n + 1) := fun i j hij hj => by
  by_cases hjn : j < n
  · exact h i j hij hjn
  · have : j = n := by omega
    subst this
    by_cases hi : i = j
    · subst hi; exact Int.le_refl _
    · have := h i (j - 1) (by omega) (by omega)
      rw [show lo + (j - 1) = lo + j - 1 by omega] at this
      omega
theorem NI.more {a : Array Keyed} {lo n : Nat} (h : NI a lo n) (h1 : 1 ≤ n) (hn : K a (lo + n) ≤ K a (lo + n - 1)) : NI a lo (n + 1) := fun i j hij hj => by
  by_cases hjn : j < n
  · exact h i j hij hjn
  · have : j = n := by omega
    subst this
    by_cases hi : i = j
    · subst hi; exact Int.le_refl _
    · have := h i (j - 1) (by omega) (by omega)
      rw [show lo + (j - 1) = lo + j - 1 by omega] at this
      omega
end
end Srt
set_option Elab.async false
set_option linter.all false
set_option maxRecDepth 100000
set_option maxHeartbeats 4000000
namespace Srt
open PySem PyProof.Rows
def Pd : Nat → List (List Keyed) → List (Nat × Nat × Nat) → Prop
  | _, [], [] => True
  | o, R :: rs, (a, n, _) :: ps => a = o ∧ n = R.length ∧ Pd (o + R.length) rs ps
  | _, _, _ => False
theorem Pd.len : ∀ {o : Nat} {rs : List (List Keyed)} {ps : List (Nat × Nat × Nat)}, Pd o rs ps → ps.length = rs.length
  | _, [], [], _ => rfl
  | _, R :: rs, (a, n, w) :: ps, h => by rw [List.length_cons, List.length_cons, Pd.len h.2.2]
  | _, [], _ :: _, h => h.elim
  | _, _ :: _, [], h => h.elim
theorem Pd.snoc : ∀ {o : Nat} {rs : List (List Keyed)} {R : List Keyed} {ps : List (Nat × Nat × Nat)}, Pd o rs ps → Pd o (rs ++ [R]) (ps ++ [(o + rs.flatten.length, R.length, 0)])
  | o, [], R, [], _ => ⟨by simp, rfl, trivial⟩
  | o, D :: rs, R, (a, n, w) :: ps, h => by
    obtain ⟨rfl, rfl, h⟩ := h
    refine ⟨rfl, rfl, ?_⟩
    have := Pd.snoc (R := R) h
    rw [show a + (D :: rs).flatten.length = a + D.length + rs.flatten.length by simp; omega]
    exact this
  | _, [], _, _ :: _, h => h.elim
  | _, _ :: _, _, [], h => h.elim
theorem Pd.modify {o : Nat} {rs : List (List Keyed)} {pw : Nat} : ∀ {o : Nat} {rs : List (List Keyed)} {ps : List (Nat × Nat × Nat)} (i : Nat), Pd o rs ps → Pd o rs (ps.modify i fun (a, n, _) => (a, n, pw))
  | o, [], [], i, _ => by simp; trivial
  | o, R :: rs, (a, n, w) :: ps, 0, h => h
  | o, R :: rs, (a, n, w) :: ps, i + 1, h => ⟨h.1, h.2.1, Pd.modify (o := o) (rs := rs) i h.2.2⟩
  | _, [], _ :: _, _, h => h.elim
  | _, _ :: _, [], _, h => h.elim
structure RI (a₀ : Array Keyed) (st : SortSt) (runs : List (List Keyed)) (T : List Keyed) : Prop where
  ok : Ok st
  perm : (arrOf st).Perm a₀
  lst : (arrOf st).toList = runs.flatten ++ T
  pd : Pd 0 runs (pendingOf st).toList
  inc : ∀ R ∈ runs, Inc R ∧ 0 < R.length
section
variable {prog : Program} {w : World} {A : Around} {E : Value → Shared → Prop} {s : Shared} {st : SortSt} {a₀ : Array Keyed} {runs : List (List Keyed)} {T : List Keyed}
theorem RI.cut {st2 : SortSt} {n : Nat} (h : RI a₀ st runs T) (b : SB runs.flatten.length st st2) (hs : SF (arrOf st2) runs.flatten.length n) (hn : runs.flatten.length + n ≤ a₀.size) (h0 : 0 < n) :
    ∃ R T', R.length = n ∧ Inc R ∧ RI a₀ st2 runs (R ++ T') := by
  have hsz : (arrOf st2).size = a₀.size := b.size.trans h.perm.size_eq
  have hz2 : (arrOf st2).toList.length = a₀.size := by rw [Array.length_toList]; exact hsz
  refine ⟨((arrOf st2).toList.drop runs.flatten.length).take n, (arrOf st2).toList.drop (runs.flatten.length + n), ?_, ?_, b.ok, b.perm.trans h.perm, ?_, by rw [b.pend]; exact h.pd, h.inc⟩
  · rw [List.length_take, List.length_drop]; omega
  · refine List.pairwise_iff_getElem.mpr fun i j hi hj hij => ?_
    rw [List.length_take, List.length_drop] at hi hj
    have := hs i j (by omega) (by omega)
    rw [K_nk (by omega), K_nk (by omega)] at this
    simpa [List.getElem_take, List.getElem_drop] using this
  · have e1 : (arrOf st2).toList.take runs.flatten.length = runs.flatten := by
      have : (arrOf st2).toList.take runs.flatten.length = (arrOf st).toList.take runs.flatten.length := by
        apply List.ext_getElem?
        intro k
        by_cases hk : k < runs.flatten.length
        · rw [List.getElem?_take_of_lt hk, List.getElem?_take_of_lt hk, Array.getElem?_toList, Array.getElem?_toList]
          exact b.pre k hk
        · rw [List.getElem?_eq_none (by rw [List.length_take]; omega), List.getElem?_eq_none (by rw [List.length_take]; omega)]
      rw [this, h.lst, List.take_left]
    have e2 : ((arrOf st2).toList.drop runs.flatten.length).take n ++ (arrOf st2).toList.drop (runs.flatten.length + n) = (arrOf st2).toList.drop runs.flatten.length := by
      rw [← List.drop_drop, List.take_append_drop]
    rw [e2]
    have := List.take_append_drop runs.flatten.length (arrOf st2).toList
    rw [e1] at this
    exact this.symm
theorem RI.push {R : List Keyed} {T' : List Keyed} (h : RI a₀ st runs (R ++ T')) (iR : Inc R) (l0 : 0 < R.length) {lo : Nat} (hlo : runs.flatten.length = lo) : RI a₀ (setPending st ((pendingOf st).push (lo, R.length, 0))) (runs ++ [R]) T' := by
  refine ⟨⟨h.ok.k, h.ok.n, h.ok.f⟩, h.perm, by show (arrOf st).toList = _; rw [h.lst]; simp, ?_, fun D hD => ?_⟩
  · show Pd 0 (runs ++ [R]) ((pendingOf st).push (lo, R.length, 0)).toList
    rw [Array.toList_push]
    have := h.pd.snoc (R := R)
    rw [Nat.zero_add, hlo] at this
    exact this
  · rcases List.mem_append.mp hD with hD | hD
    · exact h.inc D hD
    · rw [List.mem_singleton.mp hD]; exact ⟨iR, l0⟩
theorem RI.mod {pw i : Nat} (h : RI a₀ st runs T) : RI a₀ (setPending st ((pendingOf st).modify i fun (a, n, _) => (a, n, pw))) runs T := by
  refine ⟨⟨h.ok.k, h.ok.n, h.ok.f⟩, h.perm, h.lst, ?_, h.inc⟩
  show Pd 0 runs ((pendingOf st).modify i fun (a, n, _) => (a, n, pw)).toList
  rw [Array.toList_modify]
  exact Pd.modify (o := 0) (rs := runs) i h.pd
end
end Srt
set_option Elab.async false
set_option linter.all false
set_option maxRecDepth 100000
set_option maxHeartbeats 4000000
namespace Srt
open PySem PyProof.Rows
section
variable {prog : Program} {w : World} {A : Around} {E : Value → Shared → Prop} {s : Shared}
end
end Srt
set_option Elab.async false
set_option linter.all false
set_option maxRecDepth 100000
set_option maxHeartbeats 4000000
namespace L2
open PySem PySem.Spec PyProof.Rows
section
variable {X : Cx}
end
end L2
set_option Elab.async false
set_option linter.all false
set_option maxRecDepth 100000
set_option maxHeartbeats 4000000
namespace RV
open PySem PySem.Spec
theorem slot_init : Slot "reversed" "__init__" "object.__init__" :=
  .of (owner := "object") (n := "__init__") (by rw [typeLookup_type, builtinLookup_eq_fast]; kernel_rfl) (by decide +kernel) (by decide +kernel) (by decide +kernel)
    (by first | exact .inl (by decide +kernel) | exact .inr (by decide +kernel)) (by rw [isSubtype_type]; kernel_rfl)
theorem called : TypeCalled "reversed" "reversed.__new__" "object.__init__" :=
  ⟨by decide +kernel, by decide +kernel, ⟨_, _, F.mro_reversed⟩, F.made_reversed, by decide +kernel, F.sub_reversed_self, slot_init⟩
def IsRev (h : Heap) (a t : Addr) (i : Int) : Prop := ∃ o, h.get? a = some o ∧ o.cls = .type "reversed" ∧ o.data = .fields #[.ref t, rawInt i]
section
variable {prog : Program} {w : World} {A : Around} {E : Value → Shared → Prop} {s : Shared}
theorem IsRev.ty {a t : Addr} {i : Int} (x : IsRev s.heap a t i) : s.TypeIs (.ref a) "reversed" := let ⟨o, ho, hc, _⟩ := x; ⟨o, ho, hc⟩
theorem IsRev.at {h h' : Heap} {a t : Addr} {i : Int} (x : IsRev h a t i) (e : ∀ o, h.get? a = some o → h'.get? a = some o) : IsRev h' a t i := let ⟨o, ho, r⟩ := x; ⟨o, e _ ho, r⟩
end
end RV
namespace L2
open PySem PySem.Spec PyProof.Rows
section
variable {X : Cx} {tg : Expr}
def ItrS (lo c : Int) (n : Nat) : It := ⟨fun i _ => i < n, fun i H x H' => H' = H ∧ x = .int (lo + (i : Int) * c), fun i _ => n ≤ i⟩
theorem turn_rangeS {P : Program} {w : World} {K : PySem.W.Frag} {tg : Expr} (it : Addr) (lo c : Int) (n : Nat) : Turn P w K tg (ItrS lo c n) [it] it (fun i h => IsRangeIter h it (lo + (i : Nat) * c) ((n : Int) - (i : Nat)) c) where
  mem := by simp
  obj := fun i h st b hb => by
    have e : b = it := by simpa using hb
    subst e
    exact ⟨_, st, fun v z => by
      have z' : Data.fields _ = Data.cell v := z
      cases z'⟩
  keep := fun i h h' st k => k it (by simp) _ st
  item := by
    intro X hP hw hK hc i pins s σ H E I hf st hg
    subst hP hw hK
    obtain ⟨f0, f1, f2, f3, f4, f5⟩ := hf it (by simp)
    have W := Walks.range (prog := X.prog) (w := X.w) (I.ok.hd hc) it lo c n
    refine W.item i s _ _ hg st fun v h' tk hv st' kk => ?_
    obtain ⟨t, rfl⟩ := hv
    have I1 : Inv X pins σ H { s with heap := h', toks := tk } := I.turned (fun b o hb e => kk b o (by simpa using hb) e) f0 f1 f3 f4 f5
    exact ⟨_, rfl, go_of (s := { s with heap := h', toks := tk }) (n := "range_iterator") st' rfl rfl (by decide) ⟨.int (lo + (i : Int) * c), H, I1, ⟨t, rfl⟩, ⟨rfl, rfl⟩, st', fun b hb => (hf b hb).1⟩⟩
  done := by
    intro X hP hw hK hc i pins s σ H E I hf st hg
    subst hP hw hK
    obtain ⟨f0, f1, f2, f3, f4, f5⟩ := hf it (by simp)
    exact wpAny_pyNext_range_end (I.ok.hd hc) st (by have : n ≤ i := hg; omega) fun h' eb => ⟨rfl, I.turned (t' := s.toks) (fun b o hb e => eb b o hb e) f0 f1 f3 f4 f5⟩
  self := fun _ _ _ _ _ st h => wpAny_pyIter_rangeiter st h
def stepN (lo hi c : Int) : Nat := if lo < hi then ((hi - lo - 1) / c + 1).toNat else 0
theorem range_itS {pins : List (Addr × Obj)} {σ : St} {H : Hp} {s : Shared} {R : It → Hp → Prop} {E : Value → Shared → Prop} {lo hi c : Int} {t u v : Tok} {tk : Nat} (I : Inv X pins σ H s) (h1 : -(2 ^ 60) ≤ lo) (h2 : lo < 2 ^ 60) (h3 : -(2 ^ 60) ≤ hi) (h4 : hi < 2 ^ 60)
    (hc : c = 2 ∨ c = 3) (q : R (ItrS lo c (stepN lo hi c)) H) : wpAny (model X.prog X.w) X.A (pyIter (.ref s.heap.objs.size)) (PIE X pins σ tg R) E { s with heap := s.heap.push { cls := .type "range", data := .fields #[.int lo t, .int hi u, .int c v] }, toks := tk } := by
  have hsm : Builtin.Range.small lo hi c = true := by
    unfold Builtin.Range.small Builtin.Range.rangeSize
    rcases hc with rfl | rfl
    · simp only [Builtin.Range.rangeFitsLong, Bool.and_eq_true, Bool.or_eq_true, decide_eq_true_eq, beq_iff_eq, show (2 : Int) > 0 by decide, if_true]
      split <;> omega
    · simp only [Builtin.Range.rangeFitsLong, Bool.and_eq_true, Bool.or_eq_true, decide_eq_true_eq, beq_iff_eq, show (3 : Int) > 0 by decide, if_true]
      split <;> omega
  have hsz : Builtin.Range.rangeSize lo hi c = ((stepN lo hi c : Nat) : Int) := by
    unfold Builtin.Range.rangeSize stepN
    rcases hc with rfl | rfl
    · rw [if_pos (by decide)]
      split <;> omega
    · rw [if_pos (by decide)]
      split <;> omega
  refine wpAny_pyIter_range (IsRange.new ..) hsm ?_
  have I1 : Inv X pins σ H { s with heap := s.heap.push { cls := .type "range", data := .fields #[.int lo t, .int hi u, .int c v] }, toks := tk } := I.kept fun b o e => Heap.get?_push_of_some _ e
  refine ⟨(s.heap.push { cls := .type "range", data := .fields #[.int lo t, .int hi u, .int c v] }).objs.size, [(s.heap.push { cls := .type "range", data := .fields #[.int lo t, .int hi u, .int c v] }).objs.size], _, _, H, rfl,
    I1.kept (t' := tk) fun b o e => Heap.get?_push_of_some _ e, turn_rangeS _ lo c (stepN lo hi c), ?_, fun b hb => ?_, q⟩
  · have e1 : lo + ((0 : Nat) : Int) * c = lo := by simp
    have e2 : ((stepN lo hi c : Nat) : Int) - ((0 : Nat) : Int) = Builtin.Range.rangeSize lo hi c := by rw [hsz]; omega
    show IsRangeIter _ _ (lo + ((0 : Nat) : Int) * c) (((stepN lo hi c : Nat) : Int) - ((0 : Nat) : Int)) c
    rw [e1, e2]
    exact Heap.get?_push_size _ rfl
  · have e : b = (s.heap.push { cls := .type "range", data := .fields #[.int lo t, .int hi u, .int c v] }).objs.size := by simpa using hb
    subst e
    exact I1.fpOk (Nat.le_refl _) (I1.hok.fresh (Nat.le_refl _))
def iRng3 (ta : TA) : TI := fun σ H R => ta σ H fun vs H1 => ∃ i j c : Int, vs = [.int i, .int j, .int c] ∧ (-(2 ^ 60) ≤ i ∧ i < 2 ^ 60 ∧ -(2 ^ 60) ≤ j ∧ j < 2 ^ 60) ∧ (c = 2 ∨ c = 3) ∧ R (ItrS i c (stepN i j c)) H1
theorem pi_range3 {a b c : Expr} {ta : TA} {p pos : Pos} (hg : Gl X "range") (hm : X.mg "range" = none) (ha : PA X [a, b, c] ta) (hs : starEach [a, b, c] X.env = [(false, eval a X.env), (false, eval b X.env), (false, eval c X.env)] := by rfl) (hs2 : starEach [b, c] X.env = [(false, eval b X.env), (false, eval c X.env)] := by rfl) :
    PI X tg (.Call (.Name "range" p) [a, b, c] [] pos) (iRng3 ta) := by
  intro pins s σ H R I h
  refine Call_ (ld_blt I hg hm boot_range (PyProof.Rows.callWith_type1 (thn (ha pos pins s σ H _ I h) fun us s1 ⟨vs, H1, I1, r1, q1⟩ => ?_) (by rw [hs, hs2]) (by rw [hs2]; rfl)))
  obtain ⟨i, j, c, e, ⟨q1, q2, q3, q4⟩, hc, q⟩ := q1
  subst e
  cases r1 with
  | cons r rr =>
    cases rr with
    | cons r' rr =>
      cases rr with
      | cons r'' rr =>
        cases rr
        obtain ⟨t, rfl⟩ := r
        obtain ⟨t', rfl⟩ := r'
        obtain ⟨t'', rfl⟩ := r''
        exact call_range_3 (by rcases hc with rfl | rfl <;> decide) (range_itS I1 q1 q2 q3 q4 hc q) (.inl (PyProof.noPylong_small (by rcases hc with rfl | rfl <;> decide)))
end
end L2
set_option Elab.async false
set_option linter.all false
set_option maxRecDepth 100000
set_option maxHeartbeats 4000000
namespace PT
open PySem PySem.Spec
section
variable {prog : Program} {w : World} {K : Type} [DecidableEq K] {knd : HeapKind prog w K} {A : Around} {E : Value → Shared → Prop} {s : Shared}
def wo (xs : List (K × Addr × Value)) (k : K) : List (K × Addr × Value) := xs.filter fun x => decide (x.1 ≠ k)
theorem wo_at {k : K} : ∀ {xs : List (K × Addr × Value)} {j : Nat} {p : Addr × Value}, (xs.map (·.1)).Nodup → xs[j]? = some (k, p) → xs.eraseIdx j = wo xs k
  | x :: xs, 0, p, hn, h => by
    cases h
    obtain ⟨h1, _⟩ := List.nodup_cons.mp hn
    unfold wo
    rw [List.eraseIdx_cons_zero, List.filter_cons_of_neg (by simp)]
    symm
    rw [List.filter_eq_self]
    intro y hy
    have : y.1 ≠ k := fun e => h1 (by rw [← e]; exact List.mem_map.mpr ⟨y, hy, rfl⟩)
    simpa using this
  | x :: xs, j + 1, p, hn, h => by
    obtain ⟨h1, h2⟩ := List.nodup_cons.mp hn
    have h' : xs[j]? = some (k, p) := by simpa using h
    have hm : k ∈ xs.map (·.1) := List.mem_map.mpr ⟨_, List.mem_of_getElem? h', rfl⟩
    have hx : x.1 ≠ k := fun e => h1 (by show x.1 ∈ _; rw [e]; exact hm)
    rw [List.eraseIdx_cons_succ, wo_at h2 h']
    unfold wo
    rw [List.filter_cons_of_pos (by simpa using hx)]
theorem erase_map {α β : Type} {f : α → β} : ∀ {l : List α} {i : Nat}, (l.map f).eraseIdx i = (l.eraseIdx i).map f
  | [], _ => rfl
  | _ :: _, 0 => rfl
  | x :: l, i + 1 => by rw [List.map_cons, List.eraseIdx_cons_succ, List.eraseIdx_cons_succ, List.map_cons, erase_map]
theorem take_heap {d a : Addr} {xs : List (K × Addr × Value)} {k : K} {p : Addr × Value} {Q : Option DictEntry → Shared → Prop} (hu : knd.room A) (hkey : knd.is s.heap k a) (hm : s.heap.DictOfH knd d xs) (hz : xs.length ≤ sizeLine) (hp : atKey xs k = some p)
    (hQ : ∀ e h', e.val = p.2 → h'.DictOfH knd d (wo xs k) → Heap.SameBut d s.heap h' → Q (some e) { s with heap := h', toks := s.toks + knd.draws k }) : wpAny (model prog w) A (Builtin.Dict.takeOut d (.ref a)) Q E s := by
  obtain ⟨o, es, ep, ho, hc, hd, he, his, hn⟩ := hm
  unfold Builtin.Dict.takeOut
  try with_reducible refine wpAny_holding ?_
  refine wpAny_bind (knd.pyHash hu hkey (wpAny_bind (wpAny_dictFind_heap (s := { s with toks := s.toks + knd.draws k }) hu hkey ho hd he his hn ?_ ?_)))
  · intro hno
    rw [atKey_none_of_get hno] at hp
    cases hp
  · intro j q hj
    rw [atKey_of_get hn hj] at hp
    cases hp
    refine wpAny_bind (wpAny_dictEntries (s := { s with toks := s.toks + knd.draws k }) ho hd ?_)
    rw [entry_at he j, hj]
    refine wpAny_bind (wpAny_updateDictKeys (hz := by have e := size_of_entries he; omega) (s := { s with toks := s.toks + knd.draws k }) ho hd (wpAny_pure (hQ _ _ rfl ⟨_, _, ep + 1, Heap.get?_update_self _ ho (Obj.isFreed_of_dict (Obj.data_mapDictKeys hd _)),
      hc.mapDictKeys _, Obj.data_mapDictKeys hd _, ?_, ?_, ?_⟩ (Heap.SameBut.update ..))))
    · rw [← wo_at hn hj]
      obtain ⟨l⟩ := es
      have : l = xs.map (entryOfKey knd) := he
      subst this
      simp [erase_map]
    · intro x hx
      exact knd.keeps (his x (List.mem_filter.mp hx).1) ho hd (Heap.SameBut.update ..)
    · exact hn.sublist (List.filter_sublist.map _)
theorem pop_meets {d a : Addr} : MeetsIn prog w (Builtin.«dict.pop» ⟨[.ref d, .ref a], []⟩) (fun A R s => knd.room A.in1 ∧ ∃ k xs p, knd.is s.heap k a ∧ s.heap.DictOfH knd d xs ∧ xs.length ≤ sizeLine ∧ atKey xs k = some p ∧
      ∀ h', h'.DictOfH knd d (wo xs k) → Heap.SameBut d s.heap h' → R (.ok (.ret p.2)) { s with heap := h', toks := s.toks + knd.draws k }) :=
  .of_wp fun A R s ⟨hu, k, xs, p, hkey, hm, hz, hp, h⟩ => by
    unfold Builtin.«dict.pop»
    refine wpAny_bind ?_
    unfold Builtin.Dict.keyAndDefault
    refine wpAny_bind (wpAny_notOrdered_dict hm.typeIs ?_)
    show wpAny _ _ (pure (d, Value.ref a, none)) _ _ s
    refine wpAny_pure ?_
    obtain ⟨o, es, ep, ho, hc, hd, he, his, hn⟩ := id hm
    have hne : es.isEmpty = false := by
      cases hx : xs with
      | nil => subst hx; cases hp
      | cons x r =>
        subst hx
        obtain ⟨l⟩ := es
        have : l = (x :: r).map (entryOfKey knd) := he
        subst this
        rfl
    simp only [keyPart, Option.isSome_none, Bool.false_eq_true, if_false]
    refine wpAny_bind (m := dictEntries d none) (wpAny_dictEntries ho hd ?_)
    refine wpAny_bind (wpAny_pure ?_)
    rw [hne]
    simp only [Bool.false_eq_true, if_false]
    refine wpAny_bind (take_heap hu hkey hm hz hp fun e h' hv hm' hs' => ?_)
    simp only [Option.isNone_some, Bool.false_eq_true, if_false]
    exact wpAny_bind (wpAny_letGo (wpAny_pure ⟨e.val, rfl, by rw [hv]; exact h h' hm' hs'⟩))
theorem len_meets {d : Addr} (hd : (d == sysModules) = false) : MeetsIn prog w (Builtin.«dict.__len__» ⟨[.ref d], []⟩) (fun _ R s => ∃ xs, s.heap.DictOfH knd d xs ∧ R (.ok (.ret (.int xs.length s.toks))) { s with toks := s.toks + 1 }) :=
  .of_wp fun A R s ⟨xs, hm, h⟩ => by
    obtain ⟨o, es, ep, ho, hc, hdat, he, his, hn⟩ := hm
    show wpAny _ _ (dictSize d >>= _) _ _ s
    unfold dictSize
    refine wpAny_bind (wpAny_bind (wpAny_dictEntries ho hdat (wpAny_pure ?_)))
    show wpAny _ _ (Builtin.Dict.pendingCount d >>= _) _ _ s
    refine wpAny_bind (wpAny_pendingCount_other hd ?_)
    refine wpAny_ret_mkInt ?_
    have : es.size = xs.length := size_of_entries he
    rw [Nat.add_zero, this]; exact h
theorem call_len {d : Addr} {xs : List (K × Addr × Value)} {Q : Value → Shared → Prop} (hd : (d == sysModules) = false) (hm : s.heap.DictOfH knd d xs) (hfit : (xs.length : Int) < 2 ^ 63)
    (h : Q (.int xs.length (s.toks + 1)) { s with toks := s.toks + 1 + 1 }) : wpAny (model prog w) A (call (.builtin "len") [.ref d]) Q E s := by
  refine Calls.call_function_entry kind_len plain_len entry_len (args_len1 _) ?_
  unfold Builtin.«len»
  refine wpAny_bind (m := oneArg "len" _) (wpAny_pure ?_)
  refine wpAny_bind (m := callSpecial? (.ref d) (Str.ofString "__len__")) (wpAny_callSpecial?_slot (name := Str.ofString "__len__") hm.typeIs F.slot_dict_len
    (call_meetsIn F.slot_dict_len hm.typeIs F.entry_dict_len (F.args_dict_len_1 _) (len_meets (knd := knd) hd) ⟨xs, hm, ?_⟩))
  show wpAny _ _ _ _ _ { s with toks := s.toks + 1 }
  refine wpAny_bind (wpAny_holding (wpAny_pure ?_))
  refine wpAny_bind (wpAny_letGo ?_)
  show wpAny _ _ (if ((xs.length : Nat) : Int) < 0 then _ else _) _ _ _
  rw [if_neg (by omega)]
  show wpAny _ _ (if ((xs.length : Nat) : Int) ≥ 2 ^ 63 then _ else _) _ _ _
  rw [if_neg (by omega)]
  exact wpAny_bind (wpAny_mkInt (wpAny_pure ⟨_, rfl, h⟩))
end
end PT
namespace L2
open PySem PySem.Spec PyProof.Rows
section
variable {X : Cx} {pins : List (Addr × Obj)} {σ : St} {H : Hp} {s : Shared} {a b : Addr} {kvs : List (List Key × V)} {k : List Key} {A : Around} {E : Value → Shared → Prop}
theorem KT.drop {H : Hp} {kvs : List (List Key × V)} {xs : List (List Key × Addr × Value)} (r : KT H kvs xs) (k : List Key) : KT H (dropK kvs k) (PT.wo xs k) := by
  induction r with
  | nil => exact .nil
  | @cons p q ps qs hq t ih =>
    unfold dropK PT.wo at *
    by_cases e : p.1 = k
    · rw [List.filter_cons_of_neg (by simpa using e), List.filter_cons_of_neg (by simpa using (hq.1.symm.trans e))]
      exact ih
    · rw [List.filter_cons_of_pos (by simpa using e), List.filter_cons_of_pos (by simpa using (fun z => e (hq.1.trans z)))]
      exact .cons hq ih
theorem d_popT {v : V} {Q : Value → Shared → Prop} (hu : A.units + 1 < cLine) (I : Inv X pins σ H s) (e : H a = some (.dT kvs)) (eb : H b = some (.tup (k.map kV))) (l : valV kvs k = some v)
    (h : ∀ w' s', Inv X pins σ (upd H a (.dT (dropK kvs k))) s' → RelV v w' → Q w' s') : wpAny (model X.prog X.w) A (call (.builtin "dict.pop") [.ref a, .ref b]) Q E s := by
  obtain ⟨z, hd, xs, rel, dd⟩ := dt_of I.hok e
  obtain ⟨w', hw, rw'⟩ := RelO.some_of (v := v) (o := (atKey xs k).map (·.2)) (by rw [← l]; exact rel.val k)
  obtain ⟨p, hp, hp2⟩ := Option.map_eq_some_iff.mp hw
  have hz : xs.length ≤ sizeLine := by rw [← Paired.length rel]; exact z
  refine call_meetsIn PySem.F.slot_dict_pop dd.typeIs PySem.F.entry_dict_pop (PySem.F.args_dict_pop_2 _ _) (PT.pop_meets (knd := tupleKind (mixKind X.prog X.w))) ⟨tupleKind_room_in1 hu, k, xs, p, key_of I.hok eb, dd, hz, hp, fun h' dd' hs => ?_⟩
  rw [hp2]
  refine h w' _ ?_ rw'
  obtain ⟨q, es, ep, hq, h2, h3, h4, _, h5⟩ := dd'
  refine d_write I (by rw [e]; exact True.intro) hs ⟨q, hq⟩ ⟨Nat.le_trans (dropK_le kvs k) z, hd, _, (rel.drop k).keeps fun c ys ec => ?_, q, es, ep, hq, h2, h3, h4, h5⟩
  rw [upd_ne (ne_of ec e (fun z => nomatch z))]
  exact ec
end
end L2
set_option Elab.async false
set_option linter.all false
set_option maxRecDepth 100000
set_option maxHeartbeats 4000000
namespace L2
open PySem PySem.Spec PyProof.Rows
section
variable {M : Model} {A : Around} {E : Value → Shared → Prop} {s : Shared}
end
section
variable {X : Cx}
end
end L2
set_option Elab.async false
set_option linter.all false
set_option maxRecDepth 100000
set_option maxHeartbeats 4000000
namespace L2
open PySem PySem.Spec PyProof.Rows
section
variable {prog : Program} {w : World} {A : Around} {E : Value → Shared → Prop} {s : Shared}
end
section
variable {X : Cx}
end
end L2
set_option Elab.async false
set_option linter.all false
set_option maxRecDepth 100000
set_option maxHeartbeats 4000000
namespace LR
open PySem PySem.Spec PyProof.Rows
theorem no_len : typeLookup (.type "list_reverseiterator") "__len__" = pure none := by rw [typeLookup_type, builtinLookup_eq_fast]; kernel_rfl
theorem has_hint : typeLookup (.type "list_reverseiterator") "__length_hint__" = pure (some (.builtin "list_reverseiterator.__length_hint__")) := by rw [typeLookup_type, builtinLookup_eq_fast]; kernel_rfl
section
variable {prog : Program} {w : World} {A : Around} {E : Value → Shared → Prop} {s : Shared}
theorem hint {r : Addr} {Q : Bool → Shared → Prop} (ty : s.TypeIs (.ref r) "list_reverseiterator") (q : Q false s) : wpAny (model prog w) A (Builtin.List.listLengthHint (.ref r)) Q E s := by
  unfold Builtin.List.listLengthHint
  refine wpAny_bind (wpAny_specialOf ty no_len ?_)
  refine wpAny_ite_split (fun z => absurd z (by decide)) (fun _ => ?_)
  refine wpAny_ite_split (fun z => absurd z (by decide)) (fun _ => ?_)
  refine wpAny_bind (wpAny_specialOf ty has_hint ?_)
  generalize hid : ("list_reverseiterator.__length_hint__" : String) = id0
  wp_delta
  rw [show splitId id0 = some ("list_reverseiterator", "__length_hint__") from by subst hid; decide +kernel]
  subst hid
  refine wpAny_bind (wpAny_isInstance (T := "list_reverseiterator") (b := true) ty (by rw [isSubtype_type]; kernel_rfl) ?_)
  refine wpAny_ite_split (fun z => absurd z (by decide)) (fun _ => ?_)
  refine wpAny_ite_split (fun _ => ?_) (fun z => absurd (by decide +kernel) z)
  refine wpAny_ite_split (fun z => absurd z (by decide +kernel)) (fun _ => ?_)
  exact wpAny_pure q
abbrev Back (items : Array Value) : Nat → Value → Prop := fun i v => items[items.size - 1 - i]? = some v
theorem more {R : Result → Shared → Prop} {r l S : Addr} {items : Array Value} {res : Value} {c₀ : Nat} (hh : A.handled = none) (hl : s.heap.IsList l items) (hr : s.heap.IsRevIter r l ((items.size : Int) - 1)) (hne : l ≠ r) (h1 : S ≠ r) (h2 : S ≠ l) (hz : items.size ≤ sizeLine)
    (hS : s.heap.get? S = some { cls := .type "list", data := .seq #[] c₀ })
    (q : ∀ h' tk acc c, (∀ b o, b ≠ S → b ≠ r → s.heap.get? b = some o → h'.get? b = some o) → h'.get? S = some { cls := .type "list", dict := none, data := .seq acc c, slots := #[] } → ItemsOf (Back items) acc items.size → R (.ok (.ret res)) { s with heap := h', toks := tk }) :
    wpAny (model prog w) A.in1 (Builtin.List.listExtendWith (.ref S) (.ref r) res)
      (fun fin s' => match fin with | .done f => R (.ok f) s' | .again c' => c'.quiet = true ∧ codeAny (model prog w) A c' R s') (fun e s' => R (.error e) s') s := by
  have Wk := Walks.listRev (prog := prog) (w := w) (A := A.in1) hh r l hne items
  have out : S ∉ [r, l] := by simp [h1, h2]
  have st0 : ∀ h : Heap, h.IsRevIter r l ((items.size : Int) - 1) → h.IsList l items → 0 ≤ items.size ∧ h.IsRevIter r l ((items.size : Int) - 1 - ((0 : Nat) : Int)) ∧ h.IsList l items := fun h x y => ⟨Nat.zero_le _, by rw [show (items.size : Int) - 1 - ((0 : Nat) : Int) = (items.size : Int) - 1 by omega]; exact x, y⟩
  unfold Builtin.List.listExtendWith
  refine wpAny_bind (wpAny_typeOf (T := "list_reverseiterator") hr.typeIs ?_)
  have e1 : Builtin.List.listSameRef (.ref S) (.ref r) = false := by simp [Builtin.List.listSameRef, h1]
  have e2 : (Value.type "list_reverseiterator" == Value.type "list") = false := by decide
  have e3 : (Value.type "list_reverseiterator" == Value.type "tuple") = false := by decide
  simp only [e1, e2, e3, Bool.or_false, Bool.false_eq_true, if_false]
  refine wpAny_bind (wpAny_pyIter_revIter hr ?_)
  refine wpAny_bind (wpAny_holding (hint hr.typeIs ?_))
  have key : ∀ (h : Heap) (c₁ tk : Nat), h.IsRevIter r l ((items.size : Int) - 1) → h.IsList l items → (∀ b o, b ≠ S → s.heap.get? b = some o → h.get? b = some o) →
      h.get? S = some { cls := .type "list", data := .seq #[] c₁ } → codeAny (model prog w) A (.builtin "list.extend.loop" ⟨[.ref S, .ref r, res], []⟩) R { s with heap := h, toks := tk } := by
    intro h c₁ tk x1 x2 hk x3
    refine codeAny_extend_loopS Wk.toS hz S out res items.size 0 _ #[] c₁ rfl (Nat.zero_le _) (st0 h x1 x2) x3 (ItemsOf.nil _) fun s' acc c mv x4 x5 => ?_
    rw [Moved.eq_with mv]
    exact q s'.heap s'.toks acc c (fun b o b1 b2 e => mv.heap b o (fun z => by
      rcases List.mem_cons.mp z with z | z
      · exact b1 z
      · exact b2 (List.mem_singleton.mp z)) (hk b o b1 e)) x4 x5
  refine wpAny_ite_split (fun _ => ?_) (fun _ => wpAny_pure ⟨plainId_quiet PySem.F.plain_extend_loop _, key _ c₀ _ hr hl (fun b o _ e => e) hS⟩)
  refine wpAny_bind (wpAny_rule ?_)
  refine wpAny_bind ?_
  show wpAny _ _ (updateSeq S (·.push .none) >>= fun _ => updateSeq S (·.pop)) _ _ _
  refine wpAny_bind (wpAny_updateSeq hS rfl ?_)
  have y1 := Heap.get?_update_self (Obj.mapSeq (·.push Value.none)) hS rfl
  refine wpAny_updateSeq (hz := by seq_fits) y1 rfl ?_
  have y2 := Heap.get?_update_self (Obj.mapSeq (·.pop)) y1 rfl
  have oth : ∀ b o, b ≠ S → s.heap.get? b = some o → ((s.heap.update S (Obj.mapSeq (·.push Value.none))).update S (Obj.mapSeq (·.pop))).get? b = some o := fun b o hb e =>
    (Heap.get?_update_other _ _ (Ne.symm hb)).trans ((Heap.get?_update_other _ _ (Ne.symm hb)).trans e)
  exact wpAny_pure ⟨plainId_quiet PySem.F.plain_extend_loop _, key _ _ _ (hr.at fun o e => oth r o (Ne.symm h1) e) (hl.at fun o e => oth l o (Ne.symm h2) e) oth y2⟩
end
end LR
namespace L2
open PySem PySem.Spec PyProof.Rows
section
variable {X : Cx}
end
end L2
set_option Elab.async false
set_option linter.all false
set_option maxRecDepth 100000
set_option maxHeartbeats 4000000
namespace L2
open PySem PySem.Spec PyProof.Rows
section
variable {X : Cx}
theorem call_maxL (hc : X.calm = true) : CallR X (.builtin "max") (fun xs H Q => ∃ (a : Addr) (ns : List Int), xs = [.ref a] ∧ SqL X.K H a (ns.map V.int) ∧ 0 < ns.length ∧ ∀ M, M ∈ ns → (∀ b, b ∈ ns → b ≤ M) → Q (.int M) H) := by
  intro pins s σ H xs us Q I r h
  obtain ⟨a, ns, rfl, hq, hn, q⟩ := h
  obtain ⟨u, rfl, ru⟩ := vals1 r
  cases ru
  obtain ⟨its, rv, pd, hz⟩ := I.list hq
  have il : s.heap.IsList a its.toArray := pd.isList
  have hi : IntsAre its ns := intsAre_of rv
  obtain ⟨ys, e⟩ := hi.allInts.items
  have hns : ns = ys.toList.map (·.1) := by rw [← hi.numsOf, ← nums_intItems, ← e]
  have hsz : 0 < ys.size := by rw [hns, List.length_map, Array.length_toList] at hn; exact hn
  rw [e] at il
  refine max_intList (I.ok.hd hc) il hsz fun v h' tk hv hk => ?_
  obtain ⟨t, rfl⟩ := intItems_at hv
  obtain ⟨h1, h2⟩ := argBest_gt (numAt ys) (ys.size - 1)
  refine ⟨.int _, H, I.kept hk, ⟨t, rfl⟩, q _ ?_ fun b hb => ?_⟩
  · rw [hns, numAt_eq]; exact getD_mem (by rw [List.length_map, Array.length_toList]; omega)
  · rw [hns] at hb
    obtain ⟨j, hj, rfl⟩ := mem_getD hb
    rw [List.length_map, Array.length_toList] at hj
    rw [← numAt_eq]; exact h2 j (by omega)
end
end L2
set_option Elab.async false
set_option linter.all false
set_option maxHeartbeats 4000000
namespace M
def sp (m i : Nat) : Int × Int := if i < 4 * m then (((i / 4 : Nat) : Int), ((i % 4 : Nat) : Int)) else (-1, ((i - 4 * m : Nat) : Int))
theorem sp_in {m k j : Nat} (hk : k < m) (hj : j < 4) : sp m (4 * k + j) = ((k : Int), (j : Int)) := by
  unfold sp
  rw [if_pos (by omega)]
  congr 1 <;> omega
theorem sp_out (m j : Nat) : sp m (4 * m + j) = (-1, (j : Int)) := by
  unfold sp
  rw [if_neg (by omega)]
  congr 1; omega
structure Tw (n : Nat) (A : Nat → Int) (g : Nat → Nat) : Prop where
  lt : ∀ i, i < n → g i < n
  ne : ∀ i, i < n → g i ≠ i
  eq : ∀ i, i < n → A (g i) = A i
  only : ∀ i k, i < n → k < n → A k = A i → k = i ∨ k = g i
theorem Tw.inv {n : Nat} {A : Nat → Int} {g : Nat → Nat} (T : Tw n A g) {i : Nat} (h : i < n) : g (g i) = i := by
  rcases T.only (g i) i (T.lt i h) h (T.eq i h).symm with z | z
  · exact absurd z.symm (T.ne i h)
  · exact z.symm
def addP (P : List (Int × List Nat)) (a : Int) (i : Nat) : List (Int × List Nat) :=
  if (P.any fun e => decide (e.1 = a)) = true then P.map (fun e => if e.1 = a then (e.1, e.2 ++ [i]) else e) else P ++ [(a, [i])]
def plc (A : Nat → Int) (t : Nat) : List (Int × List Nat) := (List.range t).foldl (fun P i => addP P (A i) i) []
theorem plc_succ (A : Nat → Int) (t : Nat) : plc A (t + 1) = addP (plc A t) (A t) t := by
  unfold plc; rw [List.range_succ, List.foldl_append]; rfl
theorem addP_keys (P : List (Int × List Nat)) (a : Int) (i : Nat) : (addP P a i).map (·.1) = if (P.any fun e => decide (e.1 = a)) = true then P.map (·.1) else P.map (·.1) ++ [a] := by
  unfold addP
  by_cases h : (P.any fun e => decide (e.1 = a)) = true
  · rw [if_pos h, if_pos h, List.map_map]
    apply List.map_congr_left
    intro e _
    show (if e.1 = a then (e.1, e.2 ++ [i]) else e).1 = e.1
    split <;> rfl
  · rw [if_neg h, if_neg h, List.map_append]; rfl
theorem plc_ok (A : Nat → Int) : ∀ t, ((plc A t).map (·.1)).Nodup ∧ (∀ e ∈ plc A t, e.2 = (List.range t).filter (fun i => decide (A i = e.1)) ∧ e.2 ≠ []) ∧ ∀ i, i < t → ∃ e ∈ plc A t, e.1 = A i := by
  intro t
  induction t with
  | zero => exact ⟨List.nodup_nil, (fun e h => by cases h), fun i h => absurd h (Nat.not_lt_zero _)⟩
  | succ t ih =>
    obtain ⟨h1, h2, h3⟩ := ih
    rw [plc_succ]
    have hr : ∀ (p : Nat → Bool), (List.range (t + 1)).filter p = (List.range t).filter p ++ if p t then [t] else [] := fun p => by
      rw [List.range_succ, List.filter_append]
      congr 1
      by_cases hp : p t = true
      · simp [hp]
      · simp [hp]
    by_cases h : ((plc A t).any fun e => decide (e.1 = A t)) = true
    · refine ⟨by rw [addP_keys, if_pos h]; exact h1, fun e he => ?_, fun i hi => ?_⟩
      · unfold addP at he
        rw [if_pos h] at he
        obtain ⟨e', he', rfl⟩ := List.mem_map.mp he
        obtain ⟨a1, a2⟩ := h2 e' he'
        by_cases hk : e'.1 = A t
        · rw [if_pos hk]
          refine ⟨?_, by simp⟩
          show e'.2 ++ [t] = _
          rw [hr, ← a1, if_pos (by simp [hk])]
        · rw [if_neg hk]
          refine ⟨?_, a2⟩
          rw [hr, ← a1, if_neg (by simp; exact fun z => hk z.symm), List.append_nil]
      · have hmem : ∀ e ∈ plc A t, ∃ e' ∈ addP (plc A t) (A t) t, e'.1 = e.1 := fun e he => by
          have : e.1 ∈ (addP (plc A t) (A t) t).map (·.1) := by rw [addP_keys, if_pos h]; exact List.mem_map.mpr ⟨e, he, rfl⟩
          obtain ⟨e', h1', h2'⟩ := List.mem_map.mp this
          exact ⟨e', h1', h2'⟩
        by_cases hit : i < t
        · obtain ⟨e, he, q⟩ := h3 i hit
          obtain ⟨e', a1, a2⟩ := hmem e he
          exact ⟨e', a1, a2.trans q⟩
        · have : i = t := by omega
          subst this
          obtain ⟨e, he, q⟩ := List.any_eq_true.mp h
          obtain ⟨e', a1, a2⟩ := hmem e he
          exact ⟨e', a1, a2.trans (of_decide_eq_true q)⟩
    · have hno : ∀ e ∈ plc A t, e.1 ≠ A t := fun e he z => h (List.any_eq_true.mpr ⟨e, he, decide_eq_true z⟩)
      have hadd : addP (plc A t) (A t) t = plc A t ++ [(A t, [t])] := by unfold addP; rw [if_neg h]
      rw [hadd]
      refine ⟨?_, fun e he => ?_, fun i hi => ?_⟩
      · rw [List.map_append]
        refine List.nodup_append.mpr ⟨h1, by simp, fun a ha b hb => ?_⟩
        obtain ⟨e, he, rfl⟩ := List.mem_map.mp ha
        have : b = A t := by simpa using hb
        rw [this]; exact hno e he
      · rcases List.mem_append.mp he with he | he
        · obtain ⟨a1, a2⟩ := h2 e he
          refine ⟨?_, a2⟩
          rw [hr, ← a1, if_neg (by simp; exact fun z => hno e he z.symm), List.append_nil]
        · have ee : e = (A t, [t]) := by simpa using he
          subst ee
          refine ⟨?_, by simp⟩
          rw [hr, if_pos (by simp)]
          have : (List.range t).filter (fun i => decide (A i = A t)) = [] := by
            rw [List.filter_eq_nil_iff]
            intro i hi
            have hi' : i < t := List.mem_range.mp hi
            obtain ⟨e, he, q⟩ := h3 i hi'
            simp
            intro z
            exact hno e he (q.trans z)
          show [t] = List.filter (fun i => decide (A i = A t)) (List.range t) ++ [t]
          rw [this]; rfl
      · by_cases hit : i < t
        · obtain ⟨e, he, q⟩ := h3 i hit
          exact ⟨e, List.mem_append_left _ he, q⟩
        · have : i = t := by omega
          subst this
          exact ⟨_, List.mem_append_right _ (List.mem_singleton.mpr rfl), rfl⟩
def nx (m e i : Nat) : Nat := if i < 4 * m then 4 * (i / 4) + (i % 4 + 3) % 4 else 4 * m + (i - 4 * m + 1) % e
end M
set_option Elab.async false
set_option linter.all false
set_option maxRecDepth 100000
set_option maxHeartbeats 4000000
namespace PV
open PySem PySem.Spec L2
inductive Ty where
  | int | bool | str | tuple | list | dict
  deriving DecidableEq
def Ty.nm : Ty → String
  | .int => "int" | .bool => "bool" | .str => "str" | .tuple => "tuple" | .list => "list" | .dict => "dict"
inductive D where
  | non
  | bl (b : Bool)
  | int (i : Int)
  | str (x : Str)
  | tup (xs : List D)
  | lst (xs : List D)
  | dik (kvs : List (Key × D))
  | dit (kvs : List (List Key × D))
  | kls (xs : List D)
  | ty (t : Ty)
  | fdk (kvs : List (Key × D))
  | ftp (xs : List D)
  | fls (xs : List D)
  | fdt (kvs : List (List Key × D))
def imm : HO → Bool
  | .tup _ => true
  | .frz _ _ => true
  | _ => false
def FzL (K : PySem.W.Frag) (H : Hp) (a : Addr) (xs : List V) : Prop :=
  (∃ o, H a = some (.frz o (.lst xs))) ∨
    ∃ (o : Obj) (its : Array Value) (n : Nat), K.lookup a = some o ∧ o.cls = .type "list" ∧ o.dict = none ∧ o.data = .seq its n ∧ its.size ≤ sizeLine ∧ Vals xs its.toList
theorem FzL.sq {K : PySem.W.Frag} {H : Hp} {a : Addr} {xs : List V} (h : FzL K H a xs) : SqL K H a xs := by
  rcases h with h | h
  · exact .inl (.inr h)
  · exact .inr h
mutual
/-- the value v is the datum d; F: the addresses of all lists and dicts in it, in their order -/
inductive Rep (K : PySem.W.Frag) (H : Hp) : D → V → List Addr → Prop
  | non : Rep K H .non .non []
  | bl (b : Bool) : Rep K H (.bl b) (.bl b) []
  | int (i : Int) : Rep K H (.int i) (.int i) []
  | str (x : Str) : Rep K H (.str x) (.str x) []
  | tup {a : Addr} {xs : List V} {ds : List D} {F : List Addr} (e : H a = some (.tup xs)) (r : Reps K H ds xs F) : Rep K H (.tup ds) (.ref a) F
  | lst {a : Addr} {xs : List V} {ds : List D} {F : List Addr} (e : H a = some (.lst xs)) (r : Reps K H ds xs F) : Rep K H (.lst ds) (.ref a) (a :: F)
  | dik {a : Addr} {kvs : List (Key × V)} {ds : List (Key × D)} {F : List Addr} (e : H a = some (.dK kvs)) (r : RepK K H ds kvs F) : Rep K H (.dik ds) (.ref a) (a :: F)
  | dit {a : Addr} {kvs : List (List Key × V)} {ds : List (List Key × D)} {F : List Addr} (e : H a = some (.dT kvs)) (r : RepT K H ds kvs F) : Rep K H (.dit ds) (.ref a) (a :: F)
  | kls {a : Addr} {xs : List V} {ds : List D} (e : FzL K H a xs) (r : Reps K H ds xs []) : Rep K H (.kls ds) (.ref a) []
  | ty (t : Ty) : Rep K H (.ty t) (.ty t.nm) []
  | fdk {a : Addr} {o : Obj} {kvs : List (Key × V)} {ds : List (Key × D)} {F : List Addr} (e : H a = some (.frz o (.dK kvs))) (r : RepK K H ds kvs F) : Rep K H (.fdk ds) (.ref a) F
  | ftp {a : Addr} {o : Obj} {xs : List V} {ds : List D} (e : H a = some (.frz o (.tup xs))) (hd : o.dict = none) (r : Reps K H ds xs []) : Rep K H (.ftp ds) (.ref a) []
  | fls {a : Addr} {o : Obj} {xs : List V} {ds : List D} (e : H a = some (.frz o (.lst xs))) (r : Reps K H ds xs []) : Rep K H (.fls ds) (.ref a) []
  | fdt {a : Addr} {o : Obj} {kvs : List (List Key × V)} {ds : List (List Key × D)} {F : List Addr} (e : H a = some (.frz o (.dT kvs))) (r : RepT K H ds kvs F) : Rep K H (.fdt ds) (.ref a) F
inductive Reps (K : PySem.W.Frag) (H : Hp) : List D → List V → List Addr → Prop
  | nil : Reps K H [] [] []
  | cons {d : D} {v : V} {ds : List D} {vs : List V} {F G : List Addr} (h : Rep K H d v F) (r : Reps K H ds vs G) : Reps K H (d :: ds) (v :: vs) (F ++ G)
inductive RepK (K : PySem.W.Frag) (H : Hp) : List (Key × D) → List (Key × V) → List Addr → Prop
  | nil : RepK K H [] [] []
  | cons {k : Key} {d : D} {v : V} {ds : List (Key × D)} {vs : List (Key × V)} {F G : List Addr} (h : Rep K H d v F) (r : RepK K H ds vs G) : RepK K H ((k, d) :: ds) ((k, v) :: vs) (F ++ G)
inductive RepT (K : PySem.W.Frag) (H : Hp) : List (List Key × D) → List (List Key × V) → List Addr → Prop
  | nil : RepT K H [] [] []
  | cons {k : List Key} {d : D} {v : V} {ds : List (List Key × D)} {vs : List (List Key × V)} {F G : List Addr} (h : Rep K H d v F) (r : RepT K H ds vs G) : RepT K H ((k, d) :: ds) ((k, v) :: vs) (F ++ G)
end
def ImmK (H H' : Hp) : Prop := ∀ b ob, H b = some ob → imm ob = true → H' b = some ob
theorem ImmK.fzL {K : PySem.W.Frag} {H H' : Hp} (hi : ImmK H H') {a : Addr} {xs : List V} (e : FzL K H a xs) : FzL K H' a xs := by
  rcases e with ⟨o, e⟩ | e
  · exact .inl ⟨o, hi _ _ e rfl⟩
  · exact .inr e
mutual
theorem Rep.frame {K : PySem.W.Frag} {H H' : Hp} (hi : ImmK H H') : ∀ {d : D} {v : V} {F : List Addr}, Rep K H d v F → (∀ a ∈ F, H' a = H a) → Rep K H' d v F
  | _, _, _, .non, _ => .non
  | _, _, _, .bl b, _ => .bl b
  | _, _, _, .int b, _ => .int b
  | _, _, _, .str b, _ => .str b
  | _, _, _, .tup e r, k => .tup (hi _ _ e rfl) (Reps.frame hi r k)
  | _, _, _, .lst e r, k => .lst ((k _ (List.mem_cons_self)).trans e) (Reps.frame hi r fun a h => k a (List.mem_cons_of_mem _ h))
  | _, _, _, .dik e r, k => .dik ((k _ (List.mem_cons_self)).trans e) (RepK.frame hi r fun a h => k a (List.mem_cons_of_mem _ h))
  | _, _, _, .dit e r, k => .dit ((k _ (List.mem_cons_self)).trans e) (RepT.frame hi r fun a h => k a (List.mem_cons_of_mem _ h))
  | _, _, _, .kls e r, k => .kls (hi.fzL e) (Reps.frame hi r k)
  | _, _, _, .ty t, _ => .ty t
  | _, _, _, .fdk e r, k => .fdk (hi _ _ e rfl) (RepK.frame hi r k)
  | _, _, _, .ftp e hd r, k => .ftp (hi _ _ e rfl) hd (Reps.frame hi r k)
  | _, _, _, .fls e r, k => .fls (hi _ _ e rfl) (Reps.frame hi r k)
  | _, _, _, .fdt e r, k => .fdt (hi _ _ e rfl) (RepT.frame hi r k)
theorem Reps.frame {K : PySem.W.Frag} {H H' : Hp} (hi : ImmK H H') : ∀ {d : List D} {v : List V} {F : List Addr}, Reps K H d v F → (∀ a ∈ F, H' a = H a) → Reps K H' d v F
  | _, _, _, .nil, _ => .nil
  | _, _, _, .cons h r, k => .cons (Rep.frame hi h fun a q => k a (List.mem_append.mpr (.inl q))) (Reps.frame hi r fun a q => k a (List.mem_append.mpr (.inr q)))
theorem RepK.frame {K : PySem.W.Frag} {H H' : Hp} (hi : ImmK H H') : ∀ {d : List (Key × D)} {v : List (Key × V)} {F : List Addr}, RepK K H d v F → (∀ a ∈ F, H' a = H a) → RepK K H' d v F
  | _, _, _, .nil, _ => .nil
  | _, _, _, .cons h r, k => .cons (Rep.frame hi h fun a q => k a (List.mem_append.mpr (.inl q))) (RepK.frame hi r fun a q => k a (List.mem_append.mpr (.inr q)))
theorem RepT.frame {K : PySem.W.Frag} {H H' : Hp} (hi : ImmK H H') : ∀ {d : List (List Key × D)} {v : List (List Key × V)} {F : List Addr}, RepT K H d v F → (∀ a ∈ F, H' a = H a) → RepT K H' d v F
  | _, _, _, .nil, _ => .nil
  | _, _, _, .cons h r, k => .cons (Rep.frame hi h fun a q => k a (List.mem_append.mpr (.inl q))) (RepT.frame hi r fun a q => k a (List.mem_append.mpr (.inr q)))
end
mutual
/-- the trees' addresses are changeable objects of the heap -/
theorem Rep.dom {K : PySem.W.Frag} {H : Hp} : ∀ {d : D} {v : V} {F : List Addr}, Rep K H d v F → ∀ a ∈ F, ∃ ob, H a = some ob ∧ imm ob = false
  | _, _, _, .tup _ r, a, m => Reps.dom r a m
  | _, _, _, .lst e r, a, m => by
    rcases List.mem_cons.mp m with rfl | m
    · exact ⟨_, e, rfl⟩
    · exact Reps.dom r a m
  | _, _, _, .dik e r, a, m => by
    rcases List.mem_cons.mp m with rfl | m
    · exact ⟨_, e, rfl⟩
    · exact RepK.dom r a m
  | _, _, _, .dit e r, a, m => by
    rcases List.mem_cons.mp m with rfl | m
    · exact ⟨_, e, rfl⟩
    · exact RepT.dom r a m
  | _, _, _, .kls e r, a, m => nomatch m
  | _, _, _, .fdk e r, a, m => RepK.dom r a m
  | _, _, _, .ftp e hd r, a, m => nomatch m
  | _, _, _, .fls e r, a, m => nomatch m
  | _, _, _, .fdt e r, a, m => RepT.dom r a m
theorem Reps.dom {K : PySem.W.Frag} {H : Hp} : ∀ {d : List D} {v : List V} {F : List Addr}, Reps K H d v F → ∀ a ∈ F, ∃ ob, H a = some ob ∧ imm ob = false
  | _, _, _, .cons h r, a, m => by
    rcases List.mem_append.mp m with m | m
    · exact Rep.dom h a m
    · exact Reps.dom r a m
theorem RepK.dom {K : PySem.W.Frag} {H : Hp} : ∀ {d : List (Key × D)} {v : List (Key × V)} {F : List Addr}, RepK K H d v F → ∀ a ∈ F, ∃ ob, H a = some ob ∧ imm ob = false
  | _, _, _, .cons h r, a, m => by
    rcases List.mem_append.mp m with m | m
    · exact Rep.dom h a m
    · exact RepK.dom r a m
theorem RepT.dom {K : PySem.W.Frag} {H : Hp} : ∀ {d : List (List Key × D)} {v : List (List Key × V)} {F : List Addr}, RepT K H d v F → ∀ a ∈ F, ∃ ob, H a = some ob ∧ imm ob = false
  | _, _, _, .cons h r, a, m => by
    rcases List.mem_append.mp m with m | m
    · exact Rep.dom h a m
    · exact RepT.dom r a m
end
mutual
def D.pure : D → Bool
  | .tup xs => pureL xs
  | .lst _ => false
  | .dik _ => false
  | .dit _ => false
  | .kls _ => false
  | .non => true
  | .bl _ => true
  | .int _ => true
  | .str _ => true
  | .ty _ => true
  | .fdk _ => false
  | .ftp _ => true
  | .fls _ => true
  | .fdt _ => false
def pureL : List D → Bool
  | [] => true
  | d :: r => d.pure && pureL r
end
theorem pureL_iff {xs : List D} : pureL xs = true ↔ ∀ x ∈ xs, x.pure = true := by
  induction xs with
  | nil => simp [pureL]
  | cons d r ih => simp only [pureL, Bool.and_eq_true, ih, List.mem_cons, forall_eq_or_imp]
mutual
theorem Rep.pure {K : PySem.W.Frag} {H : Hp} : ∀ {d : D} {v : V} {F : List Addr}, Rep K H d v F → d.pure = true → F = [] ∧ Rep K H d v []
  | _, _, _, .non, _ => ⟨rfl, .non⟩
  | _, _, _, .bl b, _ => ⟨rfl, .bl b⟩
  | _, _, _, .int b, _ => ⟨rfl, .int b⟩
  | _, _, _, .str b, _ => ⟨rfl, .str b⟩
  | _, _, _, .tup e r, p => by
    have q := Reps.pure r (by simpa [D.pure] using p)
    exact ⟨q.1, .tup e q.2⟩
  | _, _, _, .lst e r, p => by simp [D.pure] at p
  | _, _, _, .dik e r, p => by simp [D.pure] at p
  | _, _, _, .dit e r, p => by simp [D.pure] at p
  | _, _, _, .kls e r, p => by simp [D.pure] at p
  | _, _, _, .ty b, _ => ⟨rfl, .ty b⟩
  | _, _, _, .fdk e r, p => by simp [D.pure] at p
  | _, _, _, .ftp e hd r, p => ⟨rfl, .ftp e hd r⟩
  | _, _, _, .fls e r, p => ⟨rfl, .fls e r⟩
  | _, _, _, .fdt e r, p => by simp [D.pure] at p
theorem Reps.pure {K : PySem.W.Frag} {H : Hp} : ∀ {d : List D} {v : List V} {F : List Addr}, Reps K H d v F → pureL d = true → F = [] ∧ Reps K H d v []
  | _, _, _, .nil, _ => ⟨rfl, .nil⟩
  | _, _, _, .cons h r, p => by
    simp only [pureL, Bool.and_eq_true] at p
    obtain ⟨e1, r1⟩ := Rep.pure h p.1
    obtain ⟨e2, r2⟩ := Reps.pure r p.2
    subst e1 e2
    exact ⟨rfl, .cons (F := []) (G := []) r1 r2⟩
end
section
variable {K : PySem.W.Frag} {H : Hp}
theorem Reps.length {ds : List D} {xs : List V} {F : List Addr} (r : Reps K H ds xs F) : xs.length = ds.length := by
  induction ds generalizing xs F with
  | nil => cases r; rfl
  | cons d ds ih => cases r with | cons h r => simp [ih r]
theorem Reps.append {ds es : List D} {xs ys : List V} {F G : List Addr} (r : Reps K H ds xs F) (q : Reps K H es ys G) : Reps K H (ds ++ es) (xs ++ ys) (F ++ G) := by
  induction ds generalizing xs F with
  | nil => cases r; exact q
  | cons d ds ih => cases r with | cons h r => rw [List.append_assoc]; exact .cons h (ih r)
theorem Reps.one {d : D} {x : V} {F : List Addr} (h : Rep K H d x F) : Reps K H [d] [x] F := by
  have := Reps.cons h (Reps.nil (K := K) (H := H))
  rwa [List.append_nil] at this
theorem Reps.snoc {ds : List D} {xs : List V} {d : D} {x : V} {F G : List Addr} (r : Reps K H ds xs F) (h : Rep K H d x G) : Reps K H (ds ++ [d]) (xs ++ [x]) (F ++ G) := r.append (.one h)
theorem Reps.split {ds : List D} {xs : List V} {F : List Addr} {i : Nat} {d : D} (r : Reps K H ds xs F) (h : ds[i]? = some d) :
    ∃ x A B C, xs[i]? = some x ∧ F = A ++ B ++ C ∧ Rep K H d x B ∧ Reps K H (ds.take i) (xs.take i) A ∧ Reps K H (ds.drop (i + 1)) (xs.drop (i + 1)) C := by
  induction ds generalizing xs F i with
  | nil => simp at h
  | cons e ds ih =>
    cases r with
    | @cons _ v _ vs F G p r =>
      cases i with
      | zero =>
        simp at h
        subst h
        exact ⟨v, [], F, G, rfl, by simp, p, .nil, by simpa using r⟩
      | succ i =>
        obtain ⟨x, A, B, C, h1, h2, h3, h4, h5⟩ := ih r (i := i) (by simpa using h)
        exact ⟨x, F ++ A, B, C, by simpa using h1, by rw [h2]; simp, h3, by simpa using Reps.cons p h4, by simpa using h5⟩
theorem Reps.get {ds : List D} {xs : List V} {F : List Addr} {i : Nat} {d : D} (r : Reps K H ds xs F) (h : ds[i]? = some d) : ∃ x B, xs[i]? = some x ∧ Rep K H d x B ∧ B.Sublist F := by
  obtain ⟨x, A, B, C, h1, h2, h3, _⟩ := r.split h
  exact ⟨x, B, h1, h3, h2 ▸ (List.sublist_append_right A B).trans (List.sublist_append_left _ C)⟩
theorem take_set_drop {α : Type} {l : List α} {i : Nat} {a : α} (h : i < l.length) : l.set i a = l.take i ++ a :: l.drop (i + 1) := by
  rw [List.set_eq_take_append_cons_drop, if_pos h]
theorem erase_td {α : Type} (l : List α) (i : Nat) : l.eraseIdx i = l.take i ++ l.drop (i + 1) := List.eraseIdx_eq_take_drop_succ l i
theorem Reps.take {ds : List D} {xs : List V} {F : List Addr} (i : Nat) (r : Reps K H ds xs F) : ∃ G, Reps K H (ds.take i) (xs.take i) G ∧ G.Sublist F := by
  induction ds generalizing xs F i with
  | nil => cases r; exact ⟨[], by simpa using Reps.nil, List.Sublist.slnil⟩
  | cons d ds ih =>
    cases r with
    | @cons _ v _ vs F G p r =>
      cases i with
      | zero => exact ⟨[], by simpa using Reps.nil, List.nil_sublist _⟩
      | succ i =>
        obtain ⟨G', q, s⟩ := ih i r
        exact ⟨F ++ G', by simpa using Reps.cons p q, List.Sublist.append (List.Sublist.refl _) s⟩
theorem Reps.drop {ds : List D} {xs : List V} {F : List Addr} (i : Nat) (r : Reps K H ds xs F) : ∃ G, Reps K H (ds.drop i) (xs.drop i) G ∧ G.Sublist F := by
  induction ds generalizing xs F i with
  | nil => cases r; exact ⟨[], by simpa using Reps.nil, List.Sublist.slnil⟩
  | cons d ds ih =>
    cases i with
    | zero => exact ⟨F, by simpa using r, List.Sublist.refl _⟩
    | succ i =>
      cases r with
      | @cons _ v _ vs F G p r =>
        obtain ⟨G', q, s⟩ := ih i r
        exact ⟨G', by simpa using q, s.trans (List.sublist_append_right _ _)⟩
theorem Reps.flat {ds : List D} (f : D → V) (hf : ∀ d ∈ ds, Rep K H d (f d) []) : Reps K H ds (ds.map f) [] := by
  induction ds with
  | nil => exact .nil
  | cons d ds ih => exact .cons (F := []) (G := []) (hf d List.mem_cons_self) (ih fun e he => hf e (List.mem_cons_of_mem _ he))
theorem Reps.ints (ns : List Int) : Reps K H (ns.map D.int) (ns.map V.int) [] := by
  induction ns with
  | nil => exact .nil
  | cons n ns ih => exact .cons (F := []) (G := []) (.int n) ih
theorem Reps.of_ints {ns : List Int} {xs : List V} {F : List Addr} (r : Reps K H (ns.map D.int) xs F) : xs = ns.map V.int ∧ F = [] := by
  induction ns generalizing xs F with
  | nil => cases r; exact ⟨rfl, rfl⟩
  | cons n ns ih =>
    cases r with
    | cons h r =>
      cases h
      obtain ⟨e1, e2⟩ := ih r
      exact ⟨by rw [e1]; rfl, by rw [e2]; rfl⟩
end
section
variable {κ : Type} [DecidableEq κ]
def valD (kvs : List (κ × D)) (k : κ) : Option D := (kvs.find? fun kv => decide (kv.1 = k)).map (·.2)
def putD (kvs : List (κ × D)) (k : κ) (v : D) : List (κ × D) :=
  if (kvs.any fun kv => decide (kv.1 = k)) = true then kvs.map (fun kv => if kv.1 = k then (kv.1, v) else kv) else kvs ++ [(k, v)]
def dropD (kvs : List (κ × D)) (k : κ) : List (κ × D) := kvs.filter fun kv => decide (kv.1 ≠ k)
theorem valD_nil {k : κ} : valD ([] : List (κ × D)) k = none := rfl
theorem valD_cons {p : κ × D} {r : List (κ × D)} {k : κ} : valD (p :: r) k = if p.1 = k then some p.2 else valD r k := by
  unfold valD
  by_cases h : p.1 = k
  · rw [List.find?_cons_of_pos (by simpa using h), if_pos h]; rfl
  · rw [List.find?_cons_of_neg (by simpa using h), if_neg h]
theorem anyD_iff (k : κ) : ∀ kvs : List (κ × D), (kvs.any fun kv => decide (kv.1 = k)) = (valD kvs k).isSome
  | [] => rfl
  | p :: r => by
    rw [List.any_cons, valD_cons, anyD_iff k r]
    by_cases h : p.1 = k <;> simp [h]
theorem putD_new {kvs : List (κ × D)} {k : κ} (v : D) (h : valD kvs k = none) : putD kvs k v = kvs ++ [(k, v)] := by
  unfold putD
  rw [anyD_iff, h]
  rfl
theorem valD_snoc (k j : κ) (y : D) : ∀ kvs : List (κ × D), valD (kvs ++ [(k, y)]) j = if (valD kvs j).isSome then valD kvs j else if k = j then some y else none
  | [] => by simp [valD_cons, valD_nil]
  | p :: r => by
    rw [List.cons_append, valD_cons, valD_cons, valD_snoc k j y r]
    by_cases h : p.1 = j <;> simp [h]
end
section
variable {K : PySem.W.Frag} {H : Hp}
theorem RepK.length {ds : List (Key × D)} {xs : List (Key × V)} {F : List Addr} (r : RepK K H ds xs F) : xs.length = ds.length := by
  induction ds generalizing xs F with
  | nil => cases r; rfl
  | cons d ds ih => cases r with | cons h r => simp [ih r]
theorem RepK.keys {ds : List (Key × D)} {xs : List (Key × V)} {F : List Addr} (r : RepK K H ds xs F) : xs.map (·.1) = ds.map (·.1) := by
  induction ds generalizing xs F with
  | nil => cases r; rfl
  | cons d ds ih => cases r with | cons h r => simp [ih r]
theorem RepK.val {ds : List (Key × D)} {xs : List (Key × V)} {F : List Addr} (r : RepK K H ds xs F) (k : Key) :
    (valD ds k = none ∧ valV xs k = none) ∨ ∃ d v B, valD ds k = some d ∧ valV xs k = some v ∧ Rep K H d v B ∧ B.Sublist F := by
  induction ds generalizing xs F with
  | nil => cases r; exact .inl ⟨rfl, rfl⟩
  | cons d ds ih =>
    cases r with
    | @cons j d v _ vs F G h r =>
      rw [valD_cons]
      by_cases e : j = k
      · rw [valV_pos e, if_pos e]
        exact .inr ⟨d, v, F, rfl, rfl, h, List.sublist_append_left _ _⟩
      · rw [valV_neg e, if_neg e]
        rcases ih r with q | ⟨d', v', B, h1, h2, h3, h4⟩
        · exact .inl q
        · exact .inr ⟨d', v', B, h1, h2, h3, h4.trans (List.sublist_append_right _ _)⟩
theorem RepK.append {ds es : List (Key × D)} {xs ys : List (Key × V)} {F G : List Addr} (r : RepK K H ds xs F) (q : RepK K H es ys G) : RepK K H (ds ++ es) (xs ++ ys) (F ++ G) := by
  induction ds generalizing xs F with
  | nil => cases r; exact q
  | cons d ds ih => cases r with | cons h r => rw [List.append_assoc]; exact .cons h (ih r)
theorem RepK.put {ds : List (Key × D)} {xs : List (Key × V)} {F : List Addr} {k : Key} {d : D} {v : V} (r : RepK K H ds xs F) (h : Rep K H d v []) : ∃ G, RepK K H (putD ds k d) (putK xs k v) G ∧ G.Sublist F := by
  have hk : (xs.any fun kv => decide (kv.1 = k)) = (ds.any fun kv => decide (kv.1 = k)) := by
    have e := r.keys
    rw [show (xs.any fun kv => decide (kv.1 = k)) = (xs.map (·.1)).any (fun j => decide (j = k)) by rw [List.any_map]; rfl, e, List.any_map]; rfl
  unfold putD putK
  rw [hk]
  split
  · clear hk
    rename_i hc
    clear hc
    induction ds generalizing xs F with
    | nil => cases r; exact ⟨[], .nil, List.Sublist.slnil⟩
    | cons e ds ih =>
      cases r with
      | @cons j e u _ us F G p r =>
        obtain ⟨G', q, s⟩ := ih r
        by_cases ej : j = k
        · exact ⟨[] ++ G', by simpa [ej] using RepK.cons (k := k) h q, s.trans (List.sublist_append_right _ _)⟩
        · exact ⟨F ++ G', by simpa [ej] using RepK.cons (k := j) p q, List.Sublist.append (List.Sublist.refl _) s⟩
  · refine ⟨F ++ [], r.append ?_, by simp⟩
    exact RepK.cons (F := []) (G := []) h .nil
theorem RepK.drop {ds : List (Key × D)} {xs : List (Key × V)} {F : List Addr} {k : Key} (r : RepK K H ds xs F) : ∃ G, RepK K H (dropD ds k) (dropK xs k) G ∧ G.Sublist F := by
  induction ds generalizing xs F with
  | nil => cases r; exact ⟨[], .nil, List.Sublist.slnil⟩
  | cons e ds ih =>
    cases r with
    | @cons j e u _ us F G p r =>
      obtain ⟨G', q, s⟩ := ih r
      unfold dropD dropK at *
      by_cases ej : j = k
      · exact ⟨G', by simpa [ej] using q, s.trans (List.sublist_append_right _ _)⟩
      · exact ⟨F ++ G', by simpa [ej] using RepK.cons (k := j) p q, List.Sublist.append (List.Sublist.refl _) s⟩
theorem RepT.length {ds : List (List Key × D)} {xs : List (List Key × V)} {F : List Addr} (r : RepT K H ds xs F) : xs.length = ds.length := by
  induction ds generalizing xs F with
  | nil => cases r; rfl
  | cons d ds ih => cases r with | cons h r => simp [ih r]
theorem RepT.keys {ds : List (List Key × D)} {xs : List (List Key × V)} {F : List Addr} (r : RepT K H ds xs F) : xs.map (·.1) = ds.map (·.1) := by
  induction ds generalizing xs F with
  | nil => cases r; rfl
  | cons d ds ih => cases r with | cons h r => simp [ih r]
theorem RepT.val {ds : List (List Key × D)} {xs : List (List Key × V)} {F : List Addr} (r : RepT K H ds xs F) (k : List Key) :
    (valD ds k = none ∧ valV xs k = none) ∨ ∃ d v B, valD ds k = some d ∧ valV xs k = some v ∧ Rep K H d v B ∧ B.Sublist F := by
  induction ds generalizing xs F with
  | nil => cases r; exact .inl ⟨rfl, rfl⟩
  | cons d ds ih =>
    cases r with
    | @cons j d v _ vs F G h r =>
      rw [valD_cons]
      by_cases e : j = k
      · rw [valV_pos e, if_pos e]
        exact .inr ⟨d, v, F, rfl, rfl, h, List.sublist_append_left _ _⟩
      · rw [valV_neg e, if_neg e]
        rcases ih r with q | ⟨d', v', B, h1, h2, h3, h4⟩
        · exact .inl q
        · exact .inr ⟨d', v', B, h1, h2, h3, h4.trans (List.sublist_append_right _ _)⟩
theorem RepT.append {ds es : List (List Key × D)} {xs ys : List (List Key × V)} {F G : List Addr} (r : RepT K H ds xs F) (q : RepT K H es ys G) : RepT K H (ds ++ es) (xs ++ ys) (F ++ G) := by
  induction ds generalizing xs F with
  | nil => cases r; exact q
  | cons d ds ih => cases r with | cons h r => rw [List.append_assoc]; exact .cons h (ih r)
theorem RepT.put {ds : List (List Key × D)} {xs : List (List Key × V)} {F : List Addr} {k : List Key} {d : D} {v : V} (r : RepT K H ds xs F) (h : Rep K H d v []) : ∃ G, RepT K H (putD ds k d) (putK xs k v) G ∧ G.Sublist F := by
  have hk : (xs.any fun kv => decide (kv.1 = k)) = (ds.any fun kv => decide (kv.1 = k)) := by
    have e := r.keys
    rw [show (xs.any fun kv => decide (kv.1 = k)) = (xs.map (·.1)).any (fun j => decide (j = k)) by rw [List.any_map]; rfl, e, List.any_map]; rfl
  unfold putD putK
  rw [hk]
  split
  · clear hk
    rename_i hc
    clear hc
    induction ds generalizing xs F with
    | nil => cases r; exact ⟨[], .nil, List.Sublist.slnil⟩
    | cons e ds ih =>
      cases r with
      | @cons j e u _ us F G p r =>
        obtain ⟨G', q, s⟩ := ih r
        by_cases ej : j = k
        · exact ⟨[] ++ G', by simpa [ej] using RepT.cons (k := k) h q, s.trans (List.sublist_append_right _ _)⟩
        · exact ⟨F ++ G', by simpa [ej] using RepT.cons (k := j) p q, List.Sublist.append (List.Sublist.refl _) s⟩
  · refine ⟨F ++ [], r.append ?_, by simp⟩
    exact RepT.cons (F := []) (G := []) h .nil
theorem RepT.drop {ds : List (List Key × D)} {xs : List (List Key × V)} {F : List Addr} {k : List Key} (r : RepT K H ds xs F) : ∃ G, RepT K H (dropD ds k) (dropK xs k) G ∧ G.Sublist F := by
  induction ds generalizing xs F with
  | nil => cases r; exact ⟨[], .nil, List.Sublist.slnil⟩
  | cons e ds ih =>
    cases r with
    | @cons j e u _ us F G p r =>
      obtain ⟨G', q, s⟩ := ih r
      unfold dropD dropK at *
      by_cases ej : j = k
      · exact ⟨G', by simpa [ej] using q, s.trans (List.sublist_append_right _ _)⟩
      · exact ⟨F ++ G', by simpa [ej] using RepT.cons (k := j) p q, List.Sublist.append (List.Sublist.refl _) s⟩
end
end PV
set_option Elab.async false
set_option linter.all false
set_option maxRecDepth 100000
set_option maxHeartbeats 4000000
namespace PV
open PySem PySem.Spec L2
abbrev Env := List (Option D)
def look : Env → Nat → Option D
  | [], _ => none
  | a :: _, 0 => a
  | _ :: r, n + 1 => look r n
theorem look_get : ∀ {ρ : Env} {i : Nat} {d : D}, look ρ i = some d → ρ[i]? = some (some d)
  | _ :: _, 0, _, h => by simpa [look] using h
  | _ :: r, n + 1, _, h => by simpa using look_get (ρ := r) (i := n) (by simpa [look] using h)
theorem look_lt {ρ : Env} {i : Nat} {d : D} (h : look ρ i = some d) : i < ρ.length := by
  have := look_get h
  exact (List.getElem?_eq_some_iff.mp this).1
theorem look_set {o : Option D} : ∀ {ρ : Env} {i j : Nat}, look (ρ.set i o) j = if j = i ∧ i < ρ.length then o else look ρ j
  | [], i, j => by simp [look]
  | a :: r, 0, 0 => by simp [look]
  | a :: r, 0, j + 1 => by simp [look]
  | a :: r, i + 1, 0 => by simp [look]
  | a :: r, i + 1, j + 1 => by
    have := look_set (o := o) (ρ := r) (i := i) (j := j)
    simp only [List.set_cons_succ, look, this, List.length_cons, Nat.add_right_cancel_iff, Nat.add_lt_add_iff_right]
theorem look_set_same {o : Option D} {ρ : Env} {i : Nat} (h : i < ρ.length) : look (ρ.set i o) i = o := by rw [look_set, if_pos ⟨rfl, h⟩]
theorem look_set_ne {o : Option D} {ρ : Env} {i j : Nat} (h : j ≠ i) : look (ρ.set i o) j = look ρ j := by rw [look_set, if_neg (fun z => h z.1)]
structure Tg where
  own : Nat → Bool
  io : List Nat
structure SR0 (K : PySem.W.Frag) (T : Tg) (z : Nat → V) (R : Addr → Prop) (H : Hp) (W : Addr → Prop) (σ : St) (ρ : Env) (fp : Nat → List Addr) : Prop where
  len : ρ.length = σ.length
  wd : ∀ a, W a → ∃ ob, H a = some ob ∧ imm ob = false
  at_ : ∀ i d, look ρ i = some d → ∃ v, σ[i]? = some (some v) ∧ Rep K H d v (fp i)
  own : ∀ i d, look ρ i = some d → T.own i = true → (fp i).Nodup ∧ ∀ a ∈ fp i, W a
  ro : ∀ i d, look ρ i = some d → T.own i = false → ∀ a ∈ fp i, R a
  wr : ∀ a, W a → ¬ R a
  rd : ∀ a, R a → ∃ ob, H a = some ob ∧ imm ob = false
  dis : ∀ i j d e, look ρ i = some d → look ρ j = some e → T.own i = true → T.own j = true → i ≠ j → ∀ a ∈ fp i, a ∉ fp j
  fix : ∀ i ∈ T.io, σ[i]? = some (some (z i))
def SR (K : PySem.W.Frag) (T : Tg) (z : Nat → V) (R : Addr → Prop) (H : Hp) (W : Addr → Prop) (σ : St) (ρ : Env) : Prop := ∃ fp, SR0 K T z R H W σ ρ fp
structure FrW (H : Hp) (W : Addr → Prop) (H' : Hp) (W' : Addr → Prop) : Prop where
  keep : ∀ b ob, H b = some ob → ¬ W b → H' b = some ob
  dom : ∀ b, H' b = none → H b = none
  imm : ImmK H H'
  new : ∀ b, W' b → W b ∨ H b = none
theorem FrW.refl (H : Hp) (W : Addr → Prop) : FrW H W H W := ⟨fun _ _ h _ => h, fun _ h => h, fun _ _ h _ => h, fun _ h => .inl h⟩
theorem FrW.trans {H H1 H2 : Hp} {W W1 W2 : Addr → Prop} (a : FrW H W H1 W1) (b : FrW H1 W1 H2 W2) : FrW H W H2 W2 where
  keep := fun c ob h n => b.keep c ob (a.keep c ob h n) fun w => by
    rcases a.new c w with w | w
    · exact n w
    · rw [w] at h; cases h
  dom := fun c h => a.dom c (b.dom c h)
  imm := fun c ob h i => b.imm c ob (a.imm c ob h i) i
  new := fun c h => by
    rcases b.new c h with w | w
    · exact a.new c w
    · exact .inr (a.dom c w)
theorem Same.imm {H H' : Hp} (s : Same H H') : ImmK H H' := fun b ob h _ => s b ob h
theorem FrW.same {H H' : Hp} (W : Addr → Prop) (s : Same H H') : FrW H W H' W := ⟨fun b ob h _ => s b ob h, fun b h => s.free h, Same.imm s, fun _ h => .inl h⟩
theorem Rep.same {K : PySem.W.Frag} {H H' : Hp} {d : D} {v : V} {F : List Addr} (r : Rep K H d v F) (s : Same H H') : Rep K H' d v F :=
  r.frame (Same.imm s) fun a m => by
    obtain ⟨ob, h, _⟩ := r.dom a m
    rw [h]; exact s _ _ h
theorem Reps.same {K : PySem.W.Frag} {H H' : Hp} {d : List D} {v : List V} {F : List Addr} (r : Reps K H d v F) (s : Same H H') : Reps K H' d v F :=
  r.frame (Same.imm s) fun a m => by
    obtain ⟨ob, h, _⟩ := r.dom a m
    rw [h]; exact s _ _ h
theorem Rep.keep {K : PySem.W.Frag} {H H' : Hp} {W W' : Addr → Prop} {d : D} {v : V} {F : List Addr} (r : Rep K H d v F) (f : FrW H W H' W') (n : ∀ a ∈ F, ¬ W a) : Rep K H' d v F :=
  r.frame f.imm fun a m => by
    obtain ⟨ob, h, _⟩ := r.dom a m
    rw [h]; exact f.keep _ _ h (n a m)
theorem Reps.keep {K : PySem.W.Frag} {H H' : Hp} {W W' : Addr → Prop} {d : List D} {v : List V} {F : List Addr} (r : Reps K H d v F) (f : FrW H W H' W') (n : ∀ a ∈ F, ¬ W a) : Reps K H' d v F :=
  r.frame f.imm fun a m => by
    obtain ⟨ob, h, _⟩ := r.dom a m
    rw [h]; exact f.keep _ _ h (n a m)
section
variable {K : PySem.W.Frag} {T : Tg} {z : Nat → V} {R : Addr → Prop} {H H' : Hp} {W W' : Addr → Prop} {σ : St} {ρ : Env}
theorem SR.same (s : SR K T z R H W σ ρ) (k : Same H H') : SR K T z R H' W σ ρ := by
  obtain ⟨fp, r⟩ := s
  exact ⟨fp, r.len, fun a h => (r.wd a h).imp fun ob q => ⟨k _ _ q.1, q.2⟩, fun i d h => (r.at_ i d h).imp fun v q => ⟨q.1, q.2.same k⟩, r.own, r.ro, r.wr, fun a h => (r.rd a h).imp fun ob q => ⟨k _ _ q.1, q.2⟩, r.dis, r.fix⟩
theorem SR.len (s : SR K T z R H W σ ρ) : ρ.length = σ.length := by obtain ⟨fp, r⟩ := s; exact r.len
theorem SR.wd (s : SR K T z R H W σ ρ) : ∀ a, W a → ∃ ob, H a = some ob ∧ imm ob = false := by obtain ⟨fp, r⟩ := s; exact r.wd
theorem SR.rd (s : SR K T z R H W σ ρ) : ∀ a, R a → ∃ ob, H a = some ob ∧ imm ob = false := by obtain ⟨fp, r⟩ := s; exact r.rd
theorem SR.wr (s : SR K T z R H W σ ρ) : ∀ a, W a → ¬ R a := by obtain ⟨fp, r⟩ := s; exact r.wr
theorem SR.nr (s : SR K T z R H W σ ρ) {a : Addr} (h : H a = none) : ¬ R a := fun w => by
  obtain ⟨ob, q, _⟩ := s.rd a w
  rw [h] at q; cases q
theorem SR.nw (s : SR K T z R H W σ ρ) {a : Addr} (h : H a = none) : ¬ W a := fun w => by
  obtain ⟨ob, q, _⟩ := s.wd a w
  rw [h] at q; cases q
theorem SR.drop (s : SR K T z R H W σ ρ) (i : Nat) : SR K T z R H W σ (ρ.set i none) := by
  obtain ⟨fp, r⟩ := s
  have key : ∀ j d, look (ρ.set i none) j = some d → look ρ j = some d := fun j d h => by
    rw [look_set] at h
    split at h
    · cases h
    · exact h
  exact ⟨fp, by rw [List.length_set]; exact r.len, r.wd, fun j d h => r.at_ j d (key j d h), fun j d h => r.own j d (key j d h), fun j d h => r.ro j d (key j d h), r.wr, r.rd, fun j k d e h h' => r.dis j k d e (key j d h) (key k e h'), r.fix⟩
end
abbrev WE := Env → (D → Env → Prop) → Prop
structure Post (K : PySem.W.Frag) (T : Tg) (z : Nat → V) (R : Addr → Prop) (m o : Bool) (H : Hp) (W : Addr → Prop) (σ : St) (ρ : Env) (H' : Hp) (W' : Addr → Prop) (ρ' : Env) (d : D) (v : V) (F : List Addr) : Prop where
  sr : SR K T z R H' W' σ ρ'
  fr : FrW H W H' W'
  calm : m = false → Same H H' ∧ W' = W ∧ ρ' = ρ
  rep : Rep K H' d v F
  own : o = true → F.Nodup ∧ ∀ a ∈ F, H a = none ∧ ¬ W' a
def EV (X : Cx) (T : Tg) (m o : Bool) (e : Expr) (w : WE) : Prop :=
  ∃ te, PE X e te ∧ ∀ (z : Nat → V) (R : Addr → Prop) (σ : St) (H : Hp) (W : Addr → Prop) (ρ : Env) (Q : D → Env → Prop) (Q' : VK), SR X.K T z R H W σ ρ → w ρ Q →
    (∀ v H' W' d ρ' F, Post X.K T z R m o H W σ ρ H' W' ρ' d v F → Q d ρ' → Q' v H') → te σ H Q'
section
variable {K : PySem.W.Frag} {T : Tg} {z : Nat → V} {R : Addr → Prop} {H H1 H2 : Hp} {W W1 W2 : Addr → Prop} {σ : St} {ρ ρ1 ρ2 : Env} {m1 m2 o1 o2 : Bool} {d1 d2 : D} {v1 v2 : V} {F1 F2 : List Addr}
theorem Post.first (p : Post K T z R m1 o1 H W σ ρ H1 W1 ρ1 d1 v1 F1) (q : Post K T z R m2 o2 H1 W1 σ ρ1 H2 W2 ρ2 d2 v2 F2) (hc : o1 = true ∨ m2 = false) : Rep K H2 d1 v1 F1 := by
  rcases hc with hc | hc
  · exact p.rep.keep q.fr fun a h => ((p.own hc).2 a h).2
  · exact p.rep.same (q.calm hc).1
theorem Post.firstOwn (p : Post K T z R m1 o1 H W σ ρ H1 W1 ρ1 d1 v1 F1) (q : Post K T z R m2 o2 H1 W1 σ ρ1 H2 W2 ρ2 d2 v2 F2) (h : o1 = true) : F1.Nodup ∧ ∀ a ∈ F1, H a = none ∧ ¬ W2 a := by
  obtain ⟨h1, h2⟩ := p.own h
  refine ⟨h1, fun a m => ⟨(h2 a m).1, fun w => ?_⟩⟩
  rcases q.fr.new a w with w | w
  · exact (h2 a m).2 w
  · obtain ⟨ob, e, _⟩ := p.rep.dom a m
    rw [e] at w; cases w
theorem Post.lastOwn (p : Post K T z R m1 o1 H W σ ρ H1 W1 ρ1 d1 v1 F1) (q : Post K T z R m2 o2 H1 W1 σ ρ1 H2 W2 ρ2 d2 v2 F2) (h : o2 = true) : F2.Nodup ∧ ∀ a ∈ F2, H a = none ∧ ¬ W2 a := by
  obtain ⟨h1, h2⟩ := q.own h
  exact ⟨h1, fun a m => ⟨p.fr.dom a (h2 a m).1, (h2 a m).2⟩⟩
theorem Post.calm2 (p : Post K T z R m1 o1 H W σ ρ H1 W1 ρ1 d1 v1 F1) (q : Post K T z R m2 o2 H1 W1 σ ρ1 H2 W2 ρ2 d2 v2 F2) (h : (m1 || m2) = false) : Same H H2 ∧ W2 = W ∧ ρ2 = ρ := by
  rw [Bool.or_eq_false_iff] at h
  obtain ⟨a1, a2, a3⟩ := p.calm h.1
  obtain ⟨b1, b2, b3⟩ := q.calm h.2
  exact ⟨a1.trans b1, b2.trans a2, b3.trans a3⟩
theorem Post.fin {m : Bool} {d : D} {v : V} {F : List Addr} (s : SR K T z R H1 W1 σ ρ1) (f : FrW H W H1 W1) (c : m = false → Same H H1 ∧ W1 = W ∧ ρ1 = ρ) (k : Same H1 H2) (r : Rep K H2 d v F) (nd : F.Nodup) (nw : ∀ a ∈ F, H1 a = none) :
    Post K T z R m true H W σ ρ H2 W1 ρ1 d v F where
  sr := s.same k
  fr := f.trans (FrW.same W1 k)
  calm := fun h => ⟨(c h).1.trans k, (c h).2⟩
  rep := r
  own := fun _ => ⟨nd, fun a m => ⟨f.dom a (nw a m), s.nw (nw a m)⟩⟩
theorem Post.flat {m : Bool} {d : D} {v : V} (s : SR K T z R H1 W1 σ ρ1) (f : FrW H W H1 W1) (c : m = false → Same H H1 ∧ W1 = W ∧ ρ1 = ρ) (r : Rep K H1 d v []) : Post K T z R m true H W σ ρ H1 W1 ρ1 d v [] where
  sr := s
  fr := f
  calm := c
  rep := r
  own := fun _ => ⟨List.nodup_nil, fun a m => nomatch m⟩
end
section
variable {X : Cx} {T : Tg} {m o m1 m2 o1 o2 : Bool} {e a b : Expr} {w wa wb : WE} {pos : Pos}
theorem EV.lift (h : EV X T m o e w) : EV X T m true e (fun ρ Q => w ρ fun d ρ' => d.pure = true ∧ Q d ρ') := by
  obtain ⟨te, p, g⟩ := h
  refine ⟨te, p, fun z R σ H W ρ Q Q' s hw k => g z R σ H W ρ _ Q' s hw fun v H' W' d ρ' F q ⟨hp, hq⟩ => ?_⟩
  obtain ⟨e, r⟩ := q.rep.pure hp
  exact k v H' W' d ρ' [] ⟨q.sr, q.fr, q.calm, r, fun _ => ⟨List.nodup_nil, fun a m => nomatch m⟩⟩ hq
theorem EV.ro (h : EV X T m o e w) : EV X T m false e w := by
  obtain ⟨te, p, g⟩ := h
  exact ⟨te, p, fun z R σ H W ρ Q Q' s hw k => g z R σ H W ρ _ Q' s hw fun v H' W' d ρ' F q hq => k v H' W' d ρ' F ⟨q.sr, q.fr, q.calm, q.rep, fun h => nomatch h⟩ hq⟩
def wVar (i : Nat) : WE := fun ρ Q => match look ρ i with
  | some d => Q d ρ
  | none => False
def wC (d : D) : WE := fun ρ Q => Q d ρ
theorem ev_pv (i : Nat) (h : PE X e (tVar i)) : EV X T false false e (wVar i) := by
  refine ⟨_, h, fun z R σ H W ρ Q Q' s hw k => ?_⟩
  unfold wVar at hw
  cases hl : look ρ i with
  | none => rw [hl] at hw; exact hw.elim
  | some d =>
    rw [hl] at hw
    obtain ⟨fp, r⟩ := s
    obtain ⟨v, h1, h2⟩ := r.at_ i d hl
    exact ⟨v, h1, k v H W d ρ (fp i) ⟨⟨fp, r⟩, FrW.refl H W, fun _ => ⟨Same.refl H, rfl, rfl⟩, h2, fun h => nomatch h⟩ hw⟩
theorem ev_var (i : Nat) {x : Str} (hN : X.N[i]? = some x := by rfl) (hv : Vis X.env.scope x := by first | exact Or.inl rfl | exact Or.inr (Or.inl rfl) | exact Or.inr (Or.inr rfl)) (hd : (x == ("__debug__" : Str)) = false := by decide)
    (hcd : (x == ("__classdict__" : Str)) = false := by decide) : EV X T false false (.Name x pos) (wVar i) := ev_pv i (pe_var hN hv hd hcd)
theorem ev_const {d : D} {v : V} (h : PE X e (tC v)) (r : ∀ H, Rep X.K H d v []) : EV X T false true e (wC d) :=
  ⟨_, h, fun z R σ H W ρ Q Q' s hw k => k v H W d ρ [] (Post.flat s (FrW.refl H W) (fun _ => ⟨Same.refl H, rfl, rfl⟩) (r H)) hw⟩
theorem ev_int {i : Int} {j pos} : EV X T false true (.Constant (.int i) j pos) (wC (.int i)) := ev_const pe_int fun _ => .int i
theorem ev_bl {i : Bool} {j pos} : EV X T false true (.Constant (.bool i) j pos) (wC (.bl i)) := ev_const pe_bl fun _ => .bl i
theorem ev_gint {x : Str} {i : Int} {t : Tok} (hm : X.mg x = some (.int i t)) (hg : Gl X x := by rfl) (hd : (x == ("__debug__" : Str)) = false := by decide) : EV X T false true (.Name x pos) (wC (.int i)) :=
  ev_const (pe_glob hg hm (v := .int i) ⟨t, rfl⟩ hd) fun _ => .int i
abbrev G2 := D → D → (D → Prop) → Prop
structure Fin (K : PySem.W.Frag) (H H' : Hp) (d : D) (v : V) (F : List Addr) : Prop where
  same : Same H H'
  rep : Rep K H' d v F
  nd : F.Nodup
  new : ∀ a ∈ F, H a = none
theorem Fin.flat {K : PySem.W.Frag} {H : Hp} {d : D} {v : V} (r : Rep K H d v []) : Fin K H H d v [] := ⟨Same.refl H, r, List.nodup_nil, fun _ m => nomatch m⟩
theorem same_upd {H : Hp} {p : Addr} {ob : HO} (h : H p = none) : Same H (upd H p ob) := fun b u e => by rw [upd_ne (ne_of_none e h)]; exact e
def OpD (X : Cx) (f : Value → Value → Sem Value) (g : G2) : Prop :=
  ∃ r, OpR X f r ∧ ∀ (H : Hp) (a b : D) (x y : V) (F1 F2 : List Addr) (k : D → Prop) (Q : VK), Rep X.K H a x F1 → Rep X.K H b y F2 → g a b k →
    (∀ v H' d F, Fin X.K H H' d v F → k d → Q v H') → r x y H Q
def wBin (g : G2) (wa wb : WE) : WE := fun ρ Q => wa ρ fun x ρ1 => wb ρ1 fun y ρ2 => g x y fun d => Q d ρ2
theorem two {ta tb : TE} {z : Nat → V} {R : Addr → Prop} {σ : St} {H : Hp} {W : Addr → Prop} {ρ : Env} {RR : V → V → Hp → Prop} {Q2 : D → D → Env → Prop}
    (ga : ∀ (z : Nat → V) (R : Addr → Prop) (σ : St) (H : Hp) (W : Addr → Prop) (ρ : Env) (Q : D → Env → Prop) (Q' : VK), SR X.K T z R H W σ ρ → wa ρ Q → (∀ v H' W' d ρ' F, Post X.K T z R m1 o1 H W σ ρ H' W' ρ' d v F → Q d ρ' → Q' v H') → ta σ H Q')
    (gb : ∀ (z : Nat → V) (R : Addr → Prop) (σ : St) (H : Hp) (W : Addr → Prop) (ρ : Env) (Q : D → Env → Prop) (Q' : VK), SR X.K T z R H W σ ρ → wb ρ Q → (∀ v H' W' d ρ' F, Post X.K T z R m2 o2 H W σ ρ H' W' ρ' d v F → Q d ρ' → Q' v H') → tb σ H Q')
    (hc : o1 = true ∨ m2 = false) (s : SR X.K T z R H W σ ρ) (hw : wa ρ fun x ρ1 => wb ρ1 fun y ρ2 => Q2 x y ρ2)
    (k : ∀ x y H2 W2 d1 d2 ρ2 F1 F2, SR X.K T z R H2 W2 σ ρ2 → FrW H W H2 W2 → ((m1 || m2) = false → Same H H2 ∧ W2 = W ∧ ρ2 = ρ) → Rep X.K H2 d1 x F1 → Rep X.K H2 d2 y F2 →
      (o1 = true → F1.Nodup ∧ ∀ a ∈ F1, H a = none ∧ ¬ W2 a) → (o2 = true → F2.Nodup ∧ ∀ a ∈ F2, H a = none ∧ ¬ W2 a) → (o2 = true → ∀ a ∈ F1, a ∉ F2) → Q2 d1 d2 ρ2 → RR x y H2) :
    ta σ H fun x H1 => tb σ H1 fun y H2 => RR x y H2 := by
  refine ga z R σ H W ρ _ _ s hw fun v1 H1 W1 d1 ρ1 F1 p q1 => ?_
  refine gb z R σ H1 W1 ρ1 _ _ p.sr q1 fun v2 H2 W2 d2 ρ2 F2 q q2 => ?_
  refine k v1 v2 H2 W2 d1 d2 ρ2 F1 F2 q.sr (p.fr.trans q.fr) (p.calm2 q) (p.first q hc) q.rep (p.firstOwn q) (p.lastOwn q) (fun h a m1 m2 => ?_) q2
  obtain ⟨ob, e, _⟩ := p.rep.dom a m1
  rw [((q.own h).2 a m2).1] at e
  cases e
theorem ev_op {op : Operator} {g : G2} (ho : OpD X (binaryOp op) g) (ha : EV X T m1 o1 a wa) (hb : EV X T m2 o2 b wb) (hc : o1 = true ∨ m2 = false := by first | exact .inl rfl | exact .inr rfl) :
    EV X T (m1 || m2) true (.BinOp a op b pos) (wBin g wa wb) := by
  obtain ⟨r, ro, gr⟩ := ho
  obtain ⟨ta, pa, ga⟩ := ha
  obtain ⟨tb, pb, gb⟩ := hb
  refine ⟨_, pe_op ro pa pb, fun z R σ H W ρ Q Q' s hw k => ?_⟩
  refine two ga gb hc s hw fun x y H2 W2 d1 d2 ρ2 F1 F2 s2 f2 c2 r1 r2 _ _ _ q2 => ?_
  exact gr H2 d1 d2 x y F1 F2 _ Q' r1 r2 q2 fun v H' d F fi hk => k v H' W2 d ρ2 F (Post.fin s2 f2 c2 fi.same fi.rep fi.nd fi.new) hk
theorem ev_cmp {op : CmpOp} {g : G2} (ho : OpD X (compareOp op) g) (ha : EV X T m1 o1 a wa) (hb : EV X T m2 o2 b wb) (hc : o1 = true ∨ m2 = false := by first | exact .inl rfl | exact .inr rfl)
    (hm : behindInMarks op b = false := by first | exact nomark _ | with_unfolding_all rfl) : EV X T (m1 || m2) true (.Compare a [op] [b] pos) (wBin g wa wb) := by
  obtain ⟨r, ro, gr⟩ := ho
  obtain ⟨ta, pa, ga⟩ := ha
  obtain ⟨tb, pb, gb⟩ := hb
  refine ⟨_, pe_cmpR ro pa pb hm, fun z R σ H W ρ Q Q' s hw k => ?_⟩
  refine two ga gb hc s hw fun x y H2 W2 d1 d2 ρ2 F1 F2 s2 f2 c2 r1 r2 _ _ _ q2 => ?_
  exact gr H2 d1 d2 x y F1 F2 _ Q' r1 r2 q2 fun v H' d F fi hk => k v H' W2 d ρ2 F (Post.fin s2 f2 c2 fi.same fi.rep fi.nd fi.new) hk
abbrev WT := Env → (Bool → Env → Prop) → Prop
structure PostT (K : PySem.W.Frag) (T : Tg) (z : Nat → V) (R : Addr → Prop) (m : Bool) (H : Hp) (W : Addr → Prop) (σ : St) (ρ : Env) (H' : Hp) (W' : Addr → Prop) (ρ' : Env) : Prop where
  sr : SR K T z R H' W' σ ρ'
  fr : FrW H W H' W'
  calm : m = false → Same H H' ∧ W' = W ∧ ρ' = ρ
def TV (X : Cx) (T : Tg) (m : Bool) (e : Expr) (w : WT) : Prop :=
  ∃ tt, PT X e tt ∧ ∀ (z : Nat → V) (R : Addr → Prop) (σ : St) (H : Hp) (W : Addr → Prop) (ρ : Env) (Q : Bool → Env → Prop) (Q' : Bool → Hp → Prop), SR X.K T z R H W σ ρ → w ρ Q →
    (∀ b H' W' ρ', PostT X.K T z R m H W σ ρ H' W' ρ' → Q b ρ' → Q' b H') → tt σ H Q'
def wBl (wa : WE) : WT := fun ρ Q => wa ρ fun d ρ' => match d with
  | .bl b => Q b ρ'
  | _ => False
theorem rep_bl {K : PySem.W.Frag} {H : Hp} {b : Bool} {x : V} {F : List Addr} (r : Rep K H (.bl b) x F) : x = .bl b := by cases r; rfl
theorem tv_cmp {op : CmpOp} {g : G2} (ho : OpD X (compareOp op) g) (ha : EV X T m1 o1 a wa) (hb : EV X T m2 o2 b wb) (hc : o1 = true ∨ m2 = false := by first | exact .inl rfl | exact .inr rfl)
    (hm : behindInMarks op b = false := by first | exact nomark _ | with_unfolding_all rfl) : TV X T (m1 || m2) (.Compare a [op] [b] pos) (wBl (wBin g wa wb)) := by
  obtain ⟨r, ro, gr⟩ := ho
  obtain ⟨ta, pa, ga⟩ := ha
  obtain ⟨tb, pb, gb⟩ := hb
  refine ⟨_, pt_cmpR ro pa pb hm, fun z R σ H W ρ Q Q' s hw k => ?_⟩
  refine two ga gb hc s hw fun x y H2 W2 d1 d2 ρ2 F1 F2 s2 f2 c2 r1 r2 _ _ _ q2 => ?_
  refine gr H2 d1 d2 x y F1 F2 _ _ r1 r2 q2 fun v H' d F fi hk => ?_
  cases d with
  | bl b => exact ⟨b, rep_bl fi.rep, k b H' W2 ρ2 ⟨s2.same fi.same, f2.trans (FrW.same W2 fi.same), fun h => ⟨(c2 h).1.trans fi.same, (c2 h).2⟩⟩ hk⟩
  | _ => exact hk.elim
variable {wt wu : WT} {rest : List Expr}
def wAnd (wt wu : WT) : WT := fun ρ Q => wt ρ fun b ρ' => if b = true then wu ρ' Q else Q false ρ'
def BV (X : Cx) (T : Tg) (m : Bool) (e : Expr) (w : WT) : Prop :=
  ∃ tt, PW X e tt ∧ ∀ (z : Nat → V) (R : Addr → Prop) (σ : St) (H : Hp) (W : Addr → Prop) (ρ : Env) (Q : Bool → Env → Prop) (Q' : Bool → Hp → Prop), SR X.K T z R H W σ ρ → w ρ Q →
    (∀ b H' W' ρ', PostT X.K T z R m H W σ ρ H' W' ρ' → Q b ρ' → Q' b H') → tt σ H Q'
theorem PostT.seq {K : PySem.W.Frag} {z : Nat → V} {R : Addr → Prop} {H H1 H2 : Hp} {W W1 W2 : Addr → Prop} {σ : St} {ρ ρ1 ρ2 : Env} (p : PostT K T z R m1 H W σ ρ H1 W1 ρ1) (q : PostT K T z R m2 H1 W1 σ ρ1 H2 W2 ρ2) : PostT K T z R (m1 || m2) H W σ ρ H2 W2 ρ2 where
  sr := q.sr
  fr := p.fr.trans q.fr
  calm := fun h => by
    rw [Bool.or_eq_false_iff] at h
    obtain ⟨a1, a2, a3⟩ := p.calm h.1
    obtain ⟨b1, b2, b3⟩ := q.calm h.2
    exact ⟨a1.trans b1, b2.trans a2, b3.trans a3⟩
theorem PostT.left {K : PySem.W.Frag} {z : Nat → V} {R : Addr → Prop} {H H1 : Hp} {W W1 : Addr → Prop} {σ : St} {ρ ρ1 : Env} (p : PostT K T z R m1 H W σ ρ H1 W1 ρ1) : PostT K T z R (m1 || m2) H W σ ρ H1 W1 ρ1 :=
  ⟨p.sr, p.fr, fun h => p.calm (Bool.or_eq_false_iff.mp h).1⟩
theorem bv_and1 (ha : TV X T m a wt) : BV X T m (.BoolOp .And [a] pos) wt := by
  obtain ⟨ta, pa, ga⟩ := ha
  exact ⟨_, pw_and1 pa, ga⟩
theorem bv_and (ha : TV X T m1 a wt) (hb : BV X T m2 (.BoolOp .And (b :: rest) pos) wu) : BV X T (m1 || m2) (.BoolOp .And (a :: b :: rest) pos) (wAnd wt wu) := by
  obtain ⟨ta, pa, ga⟩ := ha
  obtain ⟨tb, pb, gb⟩ := hb
  refine ⟨_, pw_and pa pb, fun z R σ H W ρ Q Q' s hw k => ga z R σ H W ρ _ _ s hw fun c H1 W1 ρ1 p q1 => ?_⟩
  cases c with
  | true => exact gb z R σ H1 W1 ρ1 Q Q' p.sr q1 fun b H2 W2 ρ2 q q2 => k b H2 W2 ρ2 (p.seq q) q2
  | false => exact k false H1 W1 ρ1 p.left q1
theorem tv_bool (h : BV X T m e wt) : TV X T m e wt := by
  obtain ⟨ta, pa, ga⟩ := h
  exact ⟨_, pa.pt, ga⟩
def wIfE (wt : WT) (wa wb : WE) : WE := fun ρ Q => wt ρ fun c ρ1 => if c = true then wa ρ1 Q else wb ρ1 Q
theorem ev_if {c : Expr} {m0 : Bool} (hc : TV X T m0 c wt) (ha : EV X T m1 o a wa) (hb : EV X T m2 o b wb) : EV X T (m0 || (m1 || m2)) o (.IfExp c a b pos) (wIfE wt wa wb) := by
  obtain ⟨tc, pc, gc⟩ := hc
  obtain ⟨ta, pa, ga⟩ := ha
  obtain ⟨tb, pb, gb⟩ := hb
  refine ⟨_, pe_ifExp pc pa pb, fun z R σ H W ρ Q Q' s hw k => gc z R σ H W ρ _ _ s hw fun c H1 W1 ρ1 p q1 => ?_⟩
  have fin : ∀ {m' : Bool} v H' W' d ρ' F, Post X.K T z R m' o H1 W1 σ ρ1 H' W' ρ' d v F → ((m1 || m2) = false → m' = false) → Q d ρ' → Q' v H' := fun v H' W' d ρ' F q hm hq => by
    refine k v H' W' d ρ' F ⟨q.sr, p.fr.trans q.fr, fun h => ?_, q.rep, fun h => ⟨(q.own h).1, fun a ma => ⟨p.fr.dom a ((q.own h).2 a ma).1, ((q.own h).2 a ma).2⟩⟩⟩ hq
    rw [Bool.or_eq_false_iff] at h
    obtain ⟨a1, a2, a3⟩ := p.calm h.1
    obtain ⟨b1, b2, b3⟩ := q.calm (hm h.2)
    exact ⟨a1.trans b1, b2.trans a2, b3.trans a3⟩
  cases c with
  | true => exact ga z R σ H1 W1 ρ1 Q Q' p.sr q1 fun v H' W' d ρ' F q hq => fin v H' W' d ρ' F q (fun h => (Bool.or_eq_false_iff.mp h).1) hq
  | false => exact gb z R σ H1 W1 ρ1 Q Q' p.sr q1 fun v H' W' d ρ' F q hq => fin v H' W' d ρ' F q (fun h => (Bool.or_eq_false_iff.mp h).2) hq
end
end PV
set_option Elab.async false
set_option linter.all false
set_option maxRecDepth 100000
set_option maxHeartbeats 4000000
namespace PV
open PySem PySem.Spec L2
open PySem.W (Dat kqdP kqdPs kqdOk)
mutual
def toDat : D → Dat
  | .non => .none
  | .bl b => .bool b
  | .int i => .int i
  | .str x => .str x
  | .tup xs => .tuple (toDats xs)
  | .lst xs => .list (toDats xs)
  | .dik _ => .none
  | .dit _ => .none
  | .kls _ => .none
  | .ty _ => .none
  | .fdk _ => .none
  | .ftp _ => .none
  | .fls _ => .none
  | .fdt _ => .none
def toDats : List D → List Dat
  | [] => []
  | d :: r => toDat d :: toDats r
end
mutual
def eqOk : Nat → D → Bool
  | _, .non => true
  | _, .int _ => true
  | _, .str x => PyData.strOk x
  | n + 1, .tup xs => eqOks n xs
  | n + 1, .lst xs => eqOks n xs
  | _, _ => false
def eqOks : Nat → List D → Bool
  | _, [] => true
  | n, d :: r => eqOk n d && eqOks n r
end
theorem eqOks_iff {n : Nat} {xs : List D} : eqOks n xs = true ↔ ∀ x ∈ xs, eqOk n x = true := by
  induction xs with
  | nil => simp [eqOks]
  | cons d r ih => simp only [eqOks, Bool.and_eq_true, ih, List.mem_cons, forall_eq_or_imp]
mutual
theorem eqOk_kqd : ∀ (n : Nat) (d : D), eqOk n d = true → kqdOk n (toDat d) = true
  | _, .non, _ => by simp [toDat, kqdOk]
  | _, .bl _, h => by cases ‹Nat› <;> simp [eqOk] at h
  | _, .int _, _ => by simp [toDat, kqdOk]
  | _, .str x, h => by
    cases ‹Nat› <;> (simp only [eqOk] at h; simpa [toDat, kqdOk] using h)
  | 0, .tup _, h => by simp [eqOk] at h
  | 0, .lst _, h => by simp [eqOk] at h
  | n + 1, .tup xs, h => by
    simp only [eqOk] at h
    rw [toDat]; simp only [kqdOk]
    exact eqOks_kqd n xs h
  | n + 1, .lst xs, h => by
    simp only [eqOk] at h
    rw [toDat]; simp only [kqdOk]
    exact eqOks_kqd n xs h
  | n, .dik _, h => by cases n <;> simp [eqOk] at h
  | n, .dit _, h => by cases n <;> simp [eqOk] at h
  | n, .kls _, h => by cases n <;> simp [eqOk] at h
  | n, .ty _, h => by cases n <;> simp [eqOk] at h
  | n, .fdk _, h => by cases n <;> simp [eqOk] at h
  | n, .ftp _, h => by cases n <;> simp [eqOk] at h
  | n, .fls _, h => by cases n <;> simp [eqOk] at h
  | n, .fdt _, h => by cases n <;> simp [eqOk] at h
theorem eqOks_kqd : ∀ (n : Nat) (xs : List D), eqOks n xs = true → (toDats xs).all (kqdOk n) = true
  | _, [], _ => by simp [toDats]
  | n, d :: r, h => by
    simp only [eqOks, Bool.and_eq_true] at h
    rw [toDats, List.all_cons, eqOk_kqd n d h.1, eqOks_kqd n r h.2]; rfl
end
mutual
theorem toDat_inj : ∀ (n k : Nat) (a b : D), eqOk n a = true → eqOk k b = true → toDat a = toDat b → a = b
  | n, k, a, b, ha, hb, h => by
    cases a with
    | non => cases b <;> first | rfl | (simp [toDat] at h; done) | (cases k <;> simp [eqOk] at hb)
    | bl x => cases n <;> simp [eqOk] at ha
    | int x => cases b <;> first | (simp [toDat] at h; rw [h]) | (simp [toDat] at h)
    | str x => cases b <;> first | (simp [toDat] at h; rw [h]) | (simp [toDat] at h)
    | tup xs =>
      cases b with
      | tup ys =>
        cases n with
        | zero => simp [eqOk] at ha
        | succ n =>
          cases k with
          | zero => simp [eqOk] at hb
          | succ k =>
            simp only [eqOk] at ha hb
            simp only [toDat, Dat.tuple.injEq] at h
            rw [toDats_inj n k xs ys ha hb h]
      | _ => simp [toDat] at h
    | lst xs =>
      cases b with
      | lst ys =>
        cases n with
        | zero => simp [eqOk] at ha
        | succ n =>
          cases k with
          | zero => simp [eqOk] at hb
          | succ k =>
            simp only [eqOk] at ha hb
            simp only [toDat, Dat.list.injEq] at h
            rw [toDats_inj n k xs ys ha hb h]
      | _ => simp [toDat] at h
    | dik x => cases n <;> simp [eqOk] at ha
    | dit x => cases n <;> simp [eqOk] at ha
    | kls x => cases n <;> simp [eqOk] at ha
    | ty x => cases n <;> simp [eqOk] at ha
    | fdk x => cases n <;> simp [eqOk] at ha
    | ftp x => cases n <;> simp [eqOk] at ha
    | fls x => cases n <;> simp [eqOk] at ha
    | fdt x => cases n <;> simp [eqOk] at ha
theorem toDats_inj : ∀ (n k : Nat) (a b : List D), eqOks n a = true → eqOks k b = true → toDats a = toDats b → a = b
  | n, k, [], b, ha, hb, h => by
    cases b with
    | nil => rfl
    | cons => simp [toDats] at h
  | n, k, x :: a, b, ha, hb, h => by
    cases b with
    | nil => simp [toDats] at h
    | cons y b =>
      simp only [toDats, List.cons.injEq] at h
      simp only [eqOks, Bool.and_eq_true] at ha hb
      rw [toDat_inj n k x y ha.1 hb.1 h.1, toDats_inj n k a b ha.2 hb.2 h.2]
end
mutual
theorem Rep.dv {K : PySem.W.Frag} {H : Hp} : ∀ {d : D} {v : V} {F : List Addr} (n : Nat), Rep K H d v F → eqOk n d = true → DV H v (toDat d)
  | _, _, _, _, .non, _ => by rw [toDat]; exact .non
  | _, _, _, n, .bl b, h => by cases n <;> simp [eqOk] at h
  | _, _, _, _, .int i, _ => by rw [toDat]; exact .int i
  | _, _, _, _, .str i, _ => by rw [toDat]; exact .str i
  | _, _, _, 0, .tup e r, h => by simp [eqOk] at h
  | _, _, _, 0, .lst e r, h => by simp [eqOk] at h
  | _, _, _, n + 1, .tup e r, h => by simp only [eqOk] at h; rw [toDat]; exact .tup e (Reps.dv n r h)
  | _, _, _, n + 1, .lst e r, h => by simp only [eqOk] at h; rw [toDat]; exact .lst e (Reps.dv n r h)
  | _, _, _, n, .dik e r, h => by cases n <;> simp [eqOk] at h
  | _, _, _, n, .dit e r, h => by cases n <;> simp [eqOk] at h
  | _, _, _, n, .kls e r, h => by cases n <;> simp [eqOk] at h
  | _, _, _, n, .ty t, h => by cases n <;> simp [eqOk] at h
  | _, _, _, n, .fdk e r, h => by cases n <;> simp [eqOk] at h
  | _, _, _, n, .ftp e hd r, h => by cases n <;> simp [eqOk] at h
  | _, _, _, n, .fls e r, h => by cases n <;> simp [eqOk] at h
  | _, _, _, n, .fdt e r, h => by cases n <;> simp [eqOk] at h
theorem Reps.dv {K : PySem.W.Frag} {H : Hp} : ∀ {d : List D} {v : List V} {F : List Addr} (n : Nat), Reps K H d v F → eqOks n d = true → DVs H v (toDats d)
  | _, _, _, _, .nil, _ => by rw [toDats]; exact .nil
  | _, _, _, n, .cons h r, q => by
    simp only [eqOks, Bool.and_eq_true] at q
    rw [toDats]; exact .cons (Rep.dv n h q.1) (Reps.dv n r q.2)
end
def dAdd : G2
  | .int i, .int j, k => k (.int (i + j))
  | .str x, .str y, k => x.length + y.length ≤ sizeLine ∧ k (.str (x ++ y))
  | .tup xs, .tup ys, k => pureL xs = true ∧ pureL ys = true ∧ xs ≠ [] ∧ xs.length + ys.length ≤ sizeLine ∧ k (.tup (xs ++ ys))
  | .lst xs, .lst ys, k => pureL xs = true ∧ pureL ys = true ∧ xs.length + ys.length ≤ sizeLine ∧ k (.lst (xs ++ ys))
  | _, _, _ => False
def dSub : G2
  | .int i, .int j, k => k (.int (i - j))
  | _, _, _ => False
def dMul : G2
  | .int i, .int j, k => CMul i j ∧ k (.int (i * j))
  | .lst xs, .int n, k => pureL xs = true ∧ -(2 ^ 63) ≤ n ∧ n < 2 ^ 63 ∧ xs.length * n.toNat ≤ sizeLine ∧ k (.lst (List.replicate n.toNat xs).flatten)
  | _, _, _ => False
def dDiv : G2
  | .int i, .int j, k => (0 < j ∧ j < 1073741824 ∧ k (.int (i / j))) ∨ (j < 0 ∧ j.natAbs < 1073741824 ∧ k (.int (i.fdiv j)))
  | _, _, _ => False
def dMod : G2
  | .int i, .int j, k => (0 < j ∧ k (.int (i % j))) ∨ (j < 0 ∧ k (.int (i.fmod j)))
  | _, _, _ => False
def dPow : G2
  | .int i, .int j, k => CPow i j ∧ k (.int (i ^ j.toNat))
  | _, _, _ => False
def dEq : G2
  | .int i, .int j, k => k (.bl (decide (i = j)))
  | .bl i, .bl j, k => k (.bl (i == j))
  | .str i, .str j, k => k (.bl (decide (i = j)))
  | a, b, k => eqOk 9 a = true ∧ eqOk 9 b = true ∧ (a = b → k (.bl true)) ∧ (a ≠ b → k (.bl false))
def dNe : G2
  | .int i, .int j, k => k (.bl (!decide (i = j)))
  | .bl i, .bl j, k => k (.bl (!(i == j)))
  | .str i, .str j, k => k (.bl (!decide (i = j)))
  | a, b, k => eqOk 9 a = true ∧ eqOk 9 b = true ∧ (a = b → k (.bl false)) ∧ (a ≠ b → k (.bl true))
def dCmp (f : Int → Int → Bool) : G2
  | .int i, .int j, k => k (.bl (f i j))
  | _, _, _ => False
section
variable {X : Cx}
theorem rep_int {K : PySem.W.Frag} {H : Hp} {i : Int} {x : V} {F : List Addr} (r : Rep K H (.int i) x F) : x = .int i := by cases r; rfl
theorem Reps.flatten {K : PySem.W.Frag} {H : Hp} {ds : List D} {xs : List V} (r : Reps K H ds xs []) : ∀ n : Nat, Reps K H (List.replicate n ds).flatten (List.replicate n xs).flatten []
  | 0 => .nil
  | n + 1 => by
    have := r.append (Reps.flatten r n)
    simpa [List.replicate_succ, List.flatten_cons] using this
theorem od_add : OpD X (binaryOp .Add) dAdd := by
  refine ⟨_, OpR.or op_add (OpR.or op_cat (OpR.or op_catT op_add_str)), fun H a b x y F1 F2 k Q ra rb g q => ?_⟩
  (cases ra <;> first | exact (show False from g).elim | skip) <;> (cases rb <;> first | exact (show False from g).elim | skip)
  · exact .inl ⟨_, _, rfl, rfl, q _ _ _ _ (.flat (.int _)) g⟩
  · exact .inr (.inr (.inr ⟨_, _, rfl, rfl, g.1, q _ _ _ _ (.flat (.str _)) g.2⟩))
  · rename_i a xs ds e1 r1 b ys es e2 r2
    obtain ⟨p1, p2, hne, hz, g⟩ := g
    obtain ⟨-, r1⟩ := r1.pure p1
    obtain ⟨-, r2⟩ := r2.pure p2
    have l1 := r1.length
    have l2 := r2.length
    refine .inr (.inr (.inl ⟨a, b, xs, ys, rfl, rfl, .of e1, .of e2, fun z => hne (List.length_eq_zero_iff.mp (by rw [← l1, z]; rfl)), by omega, fun z => ?_, fun z p hp => ?_⟩))
    · have : es = [] := List.length_eq_zero_iff.mp (by rw [← l2, z]; rfl)
      subst this
      rw [List.append_nil] at g
      exact q _ _ _ _ (.flat (.tup e1 r1)) g
    · refine q _ _ _ [] ⟨same_upd hp, .tup upd_same ?_, List.nodup_nil, fun _ m => nomatch m⟩ g
      exact (r1.append r2).same (same_upd hp)
  · rename_i a xs ds F1 e1 r1 b ys es F2 e2 r2
    obtain ⟨p1, p2, hz, g⟩ := g
    obtain ⟨-, r1⟩ := r1.pure p1
    obtain ⟨-, r2⟩ := r2.pure p2
    have l1 := r1.length
    have l2 := r2.length
    refine .inr (.inl ⟨a, b, xs, ys, rfl, rfl, e1, e2, by omega, fun p hp => ?_⟩)
    refine q _ _ _ [p] ⟨same_upd hp, .lst upd_same ((r1.append r2).same (same_upd hp)), by simp, fun c m => by rw [List.mem_singleton.mp m]; exact hp⟩ g
theorem od_sub : OpD X (binaryOp .Sub) dSub := by
  refine ⟨_, op_sub, fun H a b x y F1 F2 k Q ra rb g q => ?_⟩
  (cases ra <;> first | exact (show False from g).elim | skip) <;> (cases rb <;> first | exact (show False from g).elim | skip)
  exact ⟨_, _, rfl, rfl, q _ _ _ _ (.flat (.int _)) g⟩
theorem od_mul : OpD X (binaryOp .Mult) dMul := by
  refine ⟨_, OpR.or op_mul op_rep, fun H a b x y F1 F2 k Q ra rb g q => ?_⟩
  (cases ra <;> first | exact (show False from g).elim | skip) <;> (cases rb <;> first | exact (show False from g).elim | skip)
  · exact .inl ⟨_, _, rfl, rfl, g.1, q _ _ _ _ (.flat (.int _)) g.2⟩
  · rename_i a xs ds F1 e1 r1 n
    obtain ⟨p1, h1, h2, hz, g⟩ := g
    obtain ⟨-, r1⟩ := r1.pure p1
    have l1 := r1.length
    refine .inr ⟨a, n, xs, rfl, rfl, e1, h1, h2, by rw [l1]; exact hz, fun p hp => ?_⟩
    refine q _ _ _ [p] ⟨same_upd hp, .lst upd_same ((r1.flatten _).same (same_upd hp)), by simp, fun c m => by rw [List.mem_singleton.mp m]; exact hp⟩ g
theorem od_div : OpD X (binaryOp .FloorDiv) dDiv := by
  refine ⟨_, OpR.or op_fdiv op_fdivN, fun H a b x y F1 F2 k Q ra rb g q => ?_⟩
  (cases ra <;> first | exact (show False from g).elim | skip) <;> (cases rb <;> first | exact (show False from g).elim | skip)
  rcases (show _ ∨ _ from g) with ⟨h1, h2, g⟩ | ⟨h1, h2, g⟩
  · exact .inl ⟨_, _, rfl, rfl, ⟨h1, h2⟩, q _ _ _ _ (.flat (.int _)) g⟩
  · exact .inr ⟨_, _, rfl, rfl, ⟨by omega, h2⟩, q _ _ _ _ (.flat (.int _)) g⟩
theorem od_mod : OpD X (binaryOp .Mod) dMod := by
  refine ⟨_, OpR.or op_mod op_modN, fun H a b x y F1 F2 k Q ra rb g q => ?_⟩
  (cases ra <;> first | exact (show False from g).elim | skip) <;> (cases rb <;> first | exact (show False from g).elim | skip)
  rcases (show _ ∨ _ from g) with ⟨h1, g⟩ | ⟨h1, g⟩
  · exact .inl ⟨_, _, rfl, rfl, h1, q _ _ _ _ (.flat (.int _)) g⟩
  · exact .inr ⟨_, _, rfl, rfl, by omega, q _ _ _ _ (.flat (.int _)) g⟩
theorem od_pow : OpD X (binaryOp .Pow) dPow := by
  refine ⟨_, op_pow, fun H a b x y F1 F2 k Q ra rb g q => ?_⟩
  (cases ra <;> first | exact (show False from g).elim | skip) <;> (cases rb <;> first | exact (show False from g).elim | skip)
  exact ⟨_, _, rfl, rfl, g.1, q _ _ _ _ (.flat (.int _)) g.2⟩
theorem od_cmpI {op : CmpOp} {f : Int → Int → Bool} (h : OpR X (compareOp op) (rI0 fun i j => .bl (f i j))) : OpD X (compareOp op) (dCmp f) := by
  refine ⟨_, h, fun H a b x y F1 F2 k Q ra rb g q => ?_⟩
  (cases ra <;> first | exact (show False from g).elim | skip) <;> (cases rb <;> first | exact (show False from g).elim | skip)
  exact ⟨_, _, rfl, rfl, q _ _ _ _ (.flat (.bl _)) g⟩
theorem od_lt : OpD X (compareOp .Lt) (dCmp fun i j => decide (i < j)) := od_cmpI op_lt
theorem od_le : OpD X (compareOp .LtE) (dCmp fun i j => decide (i ≤ j)) := od_cmpI op_le
theorem od_gt : OpD X (compareOp .Gt) (dCmp fun i j => decide (j < i)) := od_cmpI op_gt
theorem eq_nest {H : Hp} {a b : D} {x y : V} {F1 F2 : List Addr} {k : D → Prop} {Q : VK} {neg : Bool} (ra : Rep X.K H a x F1) (rb : Rep X.K H b y F2)
    (h1 : eqOk 9 a = true) (h2 : eqOk 9 b = true) (g1 : a = b → k (.bl (!neg))) (g2 : a ≠ b → k (.bl neg)) (q : ∀ v H' d F, Fin X.K H H' d v F → k d → Q v H') : rDat neg x y H Q := by
  refine ⟨toDat a, toDat b, 9, ra.dv 9 h1, rb.dv 9 h2, eqOk_kqd _ _ h1, eqOk_kqd _ _ h2, Nat.le_refl _, fun e => ?_, fun e => ?_⟩
  · exact q _ _ _ _ (.flat (.bl _)) (g1 (toDat_inj 9 9 a b h1 h2 e))
  · exact q _ _ _ _ (.flat (.bl _)) (g2 fun z => e (by rw [z]))
theorem od_eq (hu : X.A.units + 64 < cLine) : OpD X (compareOp .Eq) dEq := by
  refine ⟨_, OpR.or op_eq (op_eqD hu), fun H a b x y F1 F2 k Q ra rb g q => ?_⟩
  have nest : eqOk 9 a = true ∧ eqOk 9 b = true ∧ (a = b → k (.bl true)) ∧ (a ≠ b → k (.bl false)) → rEq x y H Q ∨ rDat false x y H Q := fun ⟨h1, h2, g1, g2⟩ => .inr (eq_nest ra rb h1 h2 g1 g2 q)
  cases a with
  | int i =>
    cases b with
    | int j =>
      cases ra; cases rb
      refine .inl ⟨rfl, ?_⟩
      have e : decide (V.int i = V.int j) = decide (i = j) := by simp
      rw [e]
      exact q _ _ _ _ (.flat (.bl _)) g
    | _ => exact nest g
  | bl i =>
    cases b with
    | bl j =>
      cases ra; cases rb
      refine .inl ⟨rfl, ?_⟩
      rw [dec_bl]
      exact q _ _ _ _ (.flat (.bl _)) g
    | _ => exact nest g
  | str i =>
    cases b with
    | str j =>
      cases ra; cases rb
      refine .inl ⟨rfl, ?_⟩
      have e : decide (V.str i = V.str j) = decide (i = j) := by simp
      rw [e]
      exact q _ _ _ _ (.flat (.bl _)) g
    | _ => exact nest g
  | _ => cases b <;> exact nest g
theorem od_ne (hu : X.A.units + 64 < cLine) : OpD X (compareOp .NotEq) dNe := by
  refine ⟨_, OpR.or op_ne (op_neD hu), fun H a b x y F1 F2 k Q ra rb g q => ?_⟩
  have nest : eqOk 9 a = true ∧ eqOk 9 b = true ∧ (a = b → k (.bl false)) ∧ (a ≠ b → k (.bl true)) → rNe x y H Q ∨ rDat true x y H Q := fun ⟨h1, h2, g1, g2⟩ => .inr (eq_nest (neg := true) ra rb h1 h2 g1 g2 q)
  cases a with
  | int i =>
    cases b with
    | int j =>
      cases ra; cases rb
      refine .inl ⟨rfl, ?_⟩
      have e : (!decide (V.int i = V.int j)) = !decide (i = j) := by simp
      rw [e]
      exact q _ _ _ _ (.flat (.bl _)) g
    | _ => exact nest g
  | bl i =>
    cases b with
    | bl j =>
      cases ra; cases rb
      refine .inl ⟨rfl, ?_⟩
      rw [dec_bl]
      exact q _ _ _ _ (.flat (.bl _)) g
    | _ => exact nest g
  | str i =>
    cases b with
    | str j =>
      cases ra; cases rb
      refine .inl ⟨rfl, ?_⟩
      have e : (!decide (V.str i = V.str j)) = !decide (i = j) := by simp
      rw [e]
      exact q _ _ _ _ (.flat (.bl _)) g
    | _ => exact nest g
  | _ => cases b <;> exact nest g
end
end PV
set_option Elab.async false
set_option linter.all false
set_option maxRecDepth 100000
set_option maxHeartbeats 4000000
namespace PV
open PySem PySem.Spec L2
open PyProof.Rows (subscriptTail)
def keysOf : List D → Option (List Key)
  | [] => some []
  | .int i :: r => (keysOf r).map fun l => .inl i :: l
  | .str x :: r => (keysOf r).map fun l => .inr x :: l
  | _ :: _ => none
theorem Reps.keys {K : PySem.W.Frag} {H : Hp} : ∀ {ds : List D} {xs : List V} {F : List Addr} {l : List Key}, Reps K H ds xs F → keysOf ds = some l → xs = l.map kV
  | [], _, _, _, r, h => by
    cases r
    simp only [keysOf, Option.some.injEq] at h
    subst h
    rfl
  | d :: ds, _, _, _, r, h => by
    cases r with
    | cons p r =>
      cases d with
      | int i =>
        simp only [keysOf, Option.map_eq_some_iff] at h
        obtain ⟨l', h1, rfl⟩ := h
        cases p
        rw [Reps.keys r h1]
        rfl
      | str i =>
        simp only [keysOf, Option.map_eq_some_iff] at h
        obtain ⟨l', h1, rfl⟩ := h
        cases p
        rw [Reps.keys r h1]
        rfl
      | _ => simp [keysOf] at h
theorem Reps.atI {K : PySem.W.Frag} {H : Hp} {ds : List D} {xs : List V} {F : List Addr} {i : Int} {d : D} (r : Reps K H ds xs F) (h : L2.atI ds i = some d) : ∃ x B, L2.atI xs i = some x ∧ Rep K H d x B ∧ B.Sublist F := by
  unfold L2.atI at h
  cases hj : ixN ds.length i with
  | none => rw [hj] at h; cases h
  | some j =>
    rw [hj] at h
    obtain ⟨x, B, h1, h2, h3⟩ := r.get (i := j) h
    refine ⟨x, B, ?_, h2, h3⟩
    unfold L2.atI
    rw [r.length, hj]
    exact h1
def oget {α : Type} (o : Option α) (k : α → Prop) : Prop := match o with
  | some d => k d
  | none => False
def dIx : G2
  | .lst xs, .int i, k => oget (L2.atI xs i) k
  | .tup xs, .int i, k => oget (L2.atI xs i) k
  | .kls xs, .int i, k => oget (L2.atI xs i) k
  | .str z, .int i, k => z.length ≤ sizeLine ∧ oget (L2.atI z.cps.toList i) fun c => k (.str ⟨#[c]⟩)
  | .dik kvs, .int i, k => oget (valD kvs (.inl i)) k
  | .dik kvs, .str i, k => oget (valD kvs (.inr i)) k
  | .dit kvs, .tup l, k => oget (keysOf l) fun ks => oget (valD kvs ks) k
  | .fdk kvs, .int i, k => oget (valD kvs (.inl i)) k
  | .fdk kvs, .str i, k => oget (valD kvs (.inr i)) k
  | _, _, _ => False
theorem oget_some {α : Type} {o : Option α} {k : α → Prop} (h : oget o k) : ∃ d, o = some d ∧ k d := by
  cases o with
  | none => exact h.elim
  | some d => exact ⟨d, rfl, h⟩
section
variable {X : Cx}
theorem tail_dict {prog : Program} {w : World} {A : Around} {E : Value → Shared → Prop} {s₂ : Shared} {value slice : Expr} {o i : Value} {T id : String} {Q : Value → Shared → Prop}
    (hl : typeLookup (.type T) "__getitem__" = pure (some (.builtin id))) (hs : subscripted slice false o i = operate [o, i] (getItem o i)) (hT : s₂.TypeIs o T) (h₂ : wpAny (model prog w) A (getItem o i) Q E s₂) :
    wpAny (model prog w) A (subscriptTail value slice o i) Q E s₂ := by
  unfold subscriptTail
  refine wpAny_bind ?_
  rw [getitemInPython_of_ne hT.not_modules]
  refine wpAny_bind (wpAny_specialOf hT hl ?_)
  have fin : wpAny (model prog w) A (subscripted slice false o i) (fun r s₃ => wpAny (model prog w) A (letTemporaryGo value o r >>= fun _ => pure r) Q E s₃) E s₂ := by
    rw [hs]
    exact wpAny_operating (wpAny_mono h₂ (fun r s₃ h₃ => wpAny_bind (wpAny_letTemporaryGo (wpAny_pure h₃))) fun _ _ x => x)
  first
    | exact wpAny_pure (wpAny_bind fin)
    | exact wpAny_bind (wpAny_pure (wpAny_bind fin))
    | exact wpAny_bind fin
theorem ix_dict (hu : X.A.units + 1 < cLine) : IxR X (fun x y H Q => ∃ a v, x = .ref a ∧ DGet H a y (some v) ∧ Q v H) := by
  intro value slice pins s σ H x y v u Q I rx ry h hs
  obtain ⟨a, z, rfl, g, q⟩ := h
  cases rx
  exact tail_dict PySem.F.slot_dict_getitem.lookup hs (dict_typeIs I g) (d_getItem hu I g ry fun w' s3 I3 rw' => ⟨z, H, I3, rw', q⟩)
def IxD (X : Cx) (g : G2) : Prop :=
  ∃ r, IxR X r ∧ ∀ (H : Hp) (a b : D) (x y : V) (F1 F2 : List Addr) (k : D → Prop) (Q : VK), Rep X.K H a x F1 → Rep X.K H b y F2 → g a b k →
    (∀ v d F, Rep X.K H d v F → F.Sublist F1 → k d → Q v H) → r x y H Q
theorem xd_ix (hu : X.A.units + 1 < cLine) : IxD X dIx := by
  refine ⟨_, IxR.or ix_seq (ix_dict hu), fun H a b x y F1 F2 k Q ra rb g q => ?_⟩
  (cases ra <;> first | exact (show False from g).elim | skip) <;> (cases rb <;> first | exact (show False from g).elim | skip)
  · obtain ⟨hz, g⟩ := g
    obtain ⟨c, e, g⟩ := oget_some g
    exact .inl (.inr (.inr ⟨_, _, c, rfl, rfl, hz, e, q _ _ _ (.str _) (List.nil_sublist _) g⟩))
  · rename_i a xs ds e r i
    obtain ⟨d, h, g⟩ := oget_some g
    obtain ⟨v, B, h1, h2, h3⟩ := r.atI h
    exact .inl (.inr (.inl ⟨a, xs, i, v, rfl, rfl, .of e, h1, q _ _ _ h2 h3 g⟩))
  · rename_i a xs ds F e r i
    obtain ⟨d, h, g⟩ := oget_some g
    obtain ⟨v, B, h1, h2, h3⟩ := r.atI h
    exact .inl (.inl ⟨a, xs, i, v, rfl, rfl, .of e, h1, q _ _ _ h2 (h3.trans (List.sublist_cons_self _ _)) g⟩)
  · rename_i a kvs ds F e r i
    obtain ⟨d, h, g⟩ := oget_some g
    rcases r.val (.inl i) with ⟨z, _⟩ | ⟨d', v, B, h1, h2, h3, h4⟩
    · rw [h] at z; cases z
    · rw [h] at h1; cases h1
      exact .inr ⟨a, v, rfl, h2 ▸ DGet.k (k := .inl i) e, q _ _ _ h3 (h4.trans (List.sublist_cons_self _ _)) g⟩
  · rename_i a kvs ds F e r i
    obtain ⟨d, h, g⟩ := oget_some g
    rcases r.val (.inr i) with ⟨z, _⟩ | ⟨d', v, B, h1, h2, h3, h4⟩
    · rw [h] at z; cases z
    · rw [h] at h1; cases h1
      exact .inr ⟨a, v, rfl, h2 ▸ DGet.k (k := .inr i) e, q _ _ _ h3 (h4.trans (List.sublist_cons_self _ _)) g⟩
  · rename_i a kvs ds F e r b xs es e2 r2
    obtain ⟨ks, hk, g⟩ := oget_some g
    obtain ⟨d, h, g⟩ := oget_some g
    have hx := r2.keys hk
    subst hx
    rcases r.val ks with ⟨z, _⟩ | ⟨d', v, B, h1, h2, h3, h4⟩
    · rw [h] at z; cases z
    · rw [h] at h1; cases h1
      exact .inr ⟨a, v, rfl, h2 ▸ DGet.t (k := ks) e e2, q _ _ _ h3 (h4.trans (List.sublist_cons_self _ _)) g⟩
  · rename_i a xs ds e r i
    obtain ⟨d, h, g⟩ := oget_some g
    obtain ⟨v, B, h1, h2, h3⟩ := r.atI h
    exact .inl (.inl ⟨a, xs, i, v, rfl, rfl, e.sq, h1, q _ _ _ h2 h3 g⟩)
  · rename_i a ob kvs ds e r i
    obtain ⟨d, h, g⟩ := oget_some g
    rcases r.val (.inl i) with ⟨z, _⟩ | ⟨d', v, B, h1, h2, h3, h4⟩
    · rw [h] at z; cases z
    · rw [h] at h1; cases h1
      exact .inr ⟨a, v, rfl, .inl ⟨kvs, .inl i, .inr ⟨ob, e⟩, rfl, h2.symm⟩, q _ _ _ h3 h4 g⟩
  · rename_i a ob kvs ds e r i
    obtain ⟨d, h, g⟩ := oget_some g
    rcases r.val (.inr i) with ⟨z, _⟩ | ⟨d', v, B, h1, h2, h3, h4⟩
    · rw [h] at z; cases z
    · rw [h] at h1; cases h1
      exact .inr ⟨a, v, rfl, .inl ⟨kvs, .inr i, .inr ⟨ob, e⟩, rfl, h2.symm⟩, q _ _ _ h3 h4 g⟩
variable {T : Tg} {m o m1 m2 m3 o1 o2 : Bool} {e a b : Expr} {w wa wb : WE} {pos p2 : Pos}
theorem ev_ix {g : G2} (hg : IxD X g) (ha : EV X T m1 o1 a wa) (hb : EV X T m2 o2 b wb) (hc : o1 = true ∨ m2 = false := by first | exact .inl rfl | exact .inr rfl) (hs : PlainIx b := by intro _ _; rfl) :
    EV X T (m1 || m2) o1 (.Subscript a b pos) (wBin g wa wb) := by
  obtain ⟨r, ro, gr⟩ := hg
  obtain ⟨ta, pa, ga⟩ := ha
  obtain ⟨tb, pb, gb⟩ := hb
  refine ⟨_, pe_ix ro pa pb hs, fun z R σ H W ρ Q Q' s hw k => ?_⟩
  refine two ga gb hc s hw fun x y H2 W2 d1 d2 ρ2 F1 F2 s2 f2 c2 r1 r2 o1 _ _ q2 => ?_
  exact gr H2 d1 d2 x y F1 F2 _ Q' r1 r2 q2 fun v d F rd sub hk => k v H2 W2 d ρ2 F ⟨s2, f2, c2, rd, fun h => ⟨(o1 h).1.sublist sub, fun a m => (o1 h).2 a (sub.subset m)⟩⟩ hk
def inD : D → List D → Option Bool
  | .int i, [] => some false
  | .int i, .int j :: r => (inD (.int i) r).map fun b => (j == i) || b
  | .str i, [] => some false
  | .str i, .str j :: r => (inD (.str i) r).map fun b => (j == i) || b
  | _, _ => none
def dIn (neg : Bool) : G2
  | .int i, .dik kvs, k => k (.bl (xor neg (valD kvs (.inl i)).isSome))
  | .str i, .dik kvs, k => k (.bl (xor neg (valD kvs (.inr i)).isSome))
  | .tup l, .dit kvs, k => oget (keysOf l) fun ks => k (.bl (xor neg (valD kvs ks).isSome))
  | .int i, .lst xs, k => oget (inD (.int i) xs) fun b => k (.bl (xor neg b))
  | .int i, .tup xs, k => oget (inD (.int i) xs) fun b => k (.bl (xor neg b))
  | .str i, .lst xs, k => oget (inD (.str i) xs) fun b => k (.bl (xor neg b))
  | .str i, .tup xs, k => oget (inD (.str i) xs) fun b => k (.bl (xor neg b))
  | .str i, .str j, k => k (.bl (xor neg (!(Builtin.Str.occurrences j i 0 j.length 1).isEmpty)))
  | _, _, _ => False
theorem inD_int {K : PySem.W.Frag} {H : Hp} {i : Int} : ∀ {ds : List D} {xs : List V} {F : List Addr} {b : Bool}, Reps K H ds xs F → inD (.int i) ds = some b → xs.all flatV = true ∧ inV (.int i) xs = b
  | [], _, _, _, r, h => by
    cases r
    simp only [inD, Option.some.injEq] at h
    subst h
    exact ⟨rfl, rfl⟩
  | d :: ds, _, _, _, r, h => by
    cases r with
    | cons p r =>
      cases d with
      | int j =>
        simp only [inD, Option.map_eq_some_iff] at h
        obtain ⟨b', h1, rfl⟩ := h
        cases p
        obtain ⟨e1, e2⟩ := inD_int r h1
        refine ⟨by rw [List.all_cons, e1]; rfl, ?_⟩
        unfold inV at e2 ⊢
        rw [List.any_cons, e2]
        rfl
      | _ => simp [inD] at h
theorem inD_str {K : PySem.W.Frag} {H : Hp} {i : Str} : ∀ {ds : List D} {xs : List V} {F : List Addr} {b : Bool}, Reps K H ds xs F → inD (.str i) ds = some b → xs.all flatV = true ∧ inV (.str i) xs = b
  | [], _, _, _, r, h => by
    cases r
    simp only [inD, Option.some.injEq] at h
    subst h
    exact ⟨rfl, rfl⟩
  | d :: ds, _, _, _, r, h => by
    cases r with
    | cons p r =>
      cases d with
      | str j =>
        simp only [inD, Option.map_eq_some_iff] at h
        obtain ⟨b', h1, rfl⟩ := h
        cases p
        obtain ⟨e1, e2⟩ := inD_str r h1
        refine ⟨by rw [List.all_cons, e1]; rfl, ?_⟩
        unfold inV at e2 ⊢
        rw [List.any_cons, e2]
        rfl
      | _ => simp [inD] at h
theorem op_dict (neg : Bool) (hu : X.A.units + 1 < cLine) : OpR X (compareOp (if neg then .NotIn else .In)) (fun y x H Q => ∃ a o, x = .ref a ∧ DGet H a y o ∧ Q (.bl (xor neg o.isSome)) H) := by
  intro pins s σ H y x u v Q I ry rx h
  obtain ⟨a, ov, rfl, g, q⟩ := h
  cases rx
  cases neg with
  | false => exact d_in hu I g ry fun s3 I3 => ⟨.bl ov.isSome, H, I3, rfl, by simpa using q⟩
  | true => exact d_notIn hu I g ry fun s3 I3 => ⟨.bl (!ov.isSome), H, I3, rfl, by simpa using q⟩
theorem op_inseq (neg : Bool) : OpR X (compareOp (if neg then .NotIn else .In)) (rIn X.K neg) := by
  cases neg with
  | false => exact op_in_seq
  | true => exact op_notIn_seq
theorem op_instr (neg : Bool) : OpR X (compareOp (if neg then .NotIn else .In)) (fun x y H Q => ∃ i j, x = .str i ∧ y = .str j ∧ Q (.bl (xor neg (!(Builtin.Str.occurrences j i 0 j.length 1).isEmpty))) H) := by
  cases neg with
  | false => simpa using op_in_str (X := X)
  | true => simpa using op_notIn_str (X := X)
theorem repk_dget {H : Hp} {a : Addr} {kvs : List (Key × V)} {ds : List (Key × D)} {F : List Addr} {k : Key} (e : H a = some (.dK kvs)) (r : RepK X.K H ds kvs F) : ∃ o, DGet H a (kV k) o ∧ o.isSome = (valD ds k).isSome := by
  refine ⟨_, DGet.k (k := k) e, ?_⟩
  rcases r.val k with ⟨h1, h2⟩ | ⟨d, v, B, h1, h2, _⟩ <;> simp [h1, h2]
theorem od_in' (neg : Bool) (hu : X.A.units + 1 < cLine) : OpD X (compareOp (if neg then .NotIn else .In)) (dIn neg) := by
  refine ⟨_, OpR.or (op_dict neg hu) (OpR.or (op_inseq neg) (op_instr neg)), fun H a b x y F1 F2 k Q ra rb g q => ?_⟩
  have seqI : ∀ {i : Int} {p : Addr} {ds : List D} {xs : List V} {F : List Addr}, x = .int i → y = .ref p → Reps X.K H ds xs F → (SqL X.K H p xs ∨ SqT X.K H p xs) → oget (inD (.int i) ds) (fun b => k (.bl (xor neg b))) → rIn X.K neg x y H Q := fun {i p ds xs F} ex ey r hs g => by
    subst ex ey
    obtain ⟨b, h, g⟩ := oget_some g
    obtain ⟨e1, e2⟩ := inD_int r h
    refine ⟨p, xs, rfl, hs, rfl, e1, ?_⟩
    rw [e2]
    have := q _ _ _ _ (.flat (.bl _)) g
    cases neg <;> simpa using this
  have seqS : ∀ {i : Str} {p : Addr} {ds : List D} {xs : List V} {F : List Addr}, x = .str i → y = .ref p → Reps X.K H ds xs F → (SqL X.K H p xs ∨ SqT X.K H p xs) → oget (inD (.str i) ds) (fun b => k (.bl (xor neg b))) → rIn X.K neg x y H Q := fun {i p ds xs F} ex ey r hs g => by
    subst ex ey
    obtain ⟨b, h, g⟩ := oget_some g
    obtain ⟨e1, e2⟩ := inD_str r h
    refine ⟨p, xs, rfl, hs, rfl, e1, ?_⟩
    rw [e2]
    have := q _ _ _ _ (.flat (.bl _)) g
    cases neg <;> simpa using this
  (cases ra <;> first | exact (show False from g).elim | skip) <;> (cases rb <;> first | exact (show False from g).elim | skip)
  · exact .inr (.inl (seqI rfl rfl ‹_› (.inr (.of ‹_›)) g))
  · exact .inr (.inl (seqI rfl rfl ‹_› (.inl (.of ‹_›)) g))
  · rename_i i a kvs ds F e r
    obtain ⟨o, h1, h2⟩ := repk_dget (k := .inl i) e r
    refine .inl ⟨a, o, rfl, h1, ?_⟩
    rw [h2]
    exact q _ _ _ _ (.flat (.bl _)) g
  · exact .inr (.inr ⟨_, _, rfl, rfl, q _ _ _ _ (.flat (.bl _)) g⟩)
  · exact .inr (.inl (seqS rfl rfl ‹_› (.inr (.of ‹_›)) g))
  · exact .inr (.inl (seqS rfl rfl ‹_› (.inl (.of ‹_›)) g))
  · rename_i i a kvs ds F e r
    obtain ⟨o, h1, h2⟩ := repk_dget (k := .inr i) e r
    refine .inl ⟨a, o, rfl, h1, ?_⟩
    rw [h2]
    exact q _ _ _ _ (.flat (.bl _)) g
  · rename_i b xs es e2 r2 a kvs ds F e r
    obtain ⟨ks, hk, g⟩ := oget_some g
    have hx := r2.keys hk
    subst hx
    refine .inl ⟨a, valV kvs ks, rfl, DGet.t (k := ks) e e2, ?_⟩
    have h2 : (valV kvs ks).isSome = (valD ds ks).isSome := by
      rcases r.val ks with ⟨h1, h2⟩ | ⟨d, v, B, h1, h2, _⟩ <;> simp [h1, h2]
    rw [h2]
    exact q _ _ _ _ (.flat (.bl _)) g
theorem od_nin (hu : X.A.units + 1 < cLine) : OpD X (compareOp .NotIn) (dIn true) := od_in' true hu
abbrev WA := Env → (List D → Env → Prop) → Prop
structure PostA (K : PySem.W.Frag) (T : Tg) (z : Nat → V) (R : Addr → Prop) (m o : Bool) (H : Hp) (W : Addr → Prop) (σ : St) (ρ : Env) (H' : Hp) (W' : Addr → Prop) (ρ' : Env) (ds : List D) (vs : List V) (F : List Addr) : Prop where
  sr : SR K T z R H' W' σ ρ'
  fr : FrW H W H' W'
  calm : m = false → Same H H' ∧ W' = W ∧ ρ' = ρ
  rep : Reps K H' ds vs F
  own : o = true → F.Nodup ∧ ∀ a ∈ F, H a = none ∧ ¬ W' a
def AV (X : Cx) (T : Tg) (m o : Bool) (es : List Expr) (w : WA) : Prop :=
  ∃ ta, PA X es ta ∧ ∀ (z : Nat → V) (R : Addr → Prop) (σ : St) (H : Hp) (W : Addr → Prop) (ρ : Env) (Q : List D → Env → Prop) (Q' : List V → Hp → Prop), SR X.K T z R H W σ ρ → w ρ Q →
    (∀ vs H' W' ds ρ' F, PostA X.K T z R m o H W σ ρ H' W' ρ' ds vs F → Q ds ρ' → Q' vs H') → ta σ H Q'
variable {es : List Expr} {wr : WA}
def wNil : WA := fun ρ Q => Q [] ρ
def wCons (w : WE) (wr : WA) : WA := fun ρ Q => w ρ fun d ρ1 => wr ρ1 fun ds ρ2 => Q (d :: ds) ρ2
theorem av_nil : AV X T false true [] wNil := ⟨_, pa_nil, fun z R σ H W ρ Q Q' s hw k => k [] H W [] ρ [] ⟨s, FrW.refl H W, fun _ => ⟨Same.refl H, rfl, rfl⟩, .nil, fun _ => ⟨List.nodup_nil, fun a m => nomatch m⟩⟩ hw⟩
theorem av_cons (he : EV X T m1 o1 e w) (hr : AV X T m2 o2 es wr) (hc : o1 = true ∨ m2 = false := by first | exact .inl rfl | exact .inr rfl) (hs : starEach (e :: es) X.env = (false, eval e X.env) :: starEach es X.env := by rfl) :
    AV X T (m1 || m2) (o1 && o2) (e :: es) (wCons w wr) := by
  obtain ⟨te, pe, ge⟩ := he
  obtain ⟨ta, pa, ga⟩ := hr
  refine ⟨_, pa_cons pe pa hs, fun z R σ H W ρ Q Q' s hw k => ?_⟩
  refine ge z R σ H W ρ _ _ s hw fun v1 H1 W1 d1 ρ1 F1 p q1 => ?_
  refine ga z R σ H1 W1 ρ1 _ _ p.sr q1 fun vs H2 W2 ds ρ2 F2 q q2 => ?_
  have r1 : Rep X.K H2 d1 v1 F1 := by
    rcases hc with hc | hc
    · exact p.rep.keep q.fr fun a h => ((p.own hc).2 a h).2
    · exact p.rep.same (q.calm hc).1
  refine k (v1 :: vs) H2 W2 (d1 :: ds) ρ2 (F1 ++ F2) ⟨q.sr, p.fr.trans q.fr, fun h => ?_, .cons r1 q.rep, fun h => ?_⟩ q2
  · rw [Bool.or_eq_false_iff] at h
    obtain ⟨a1, a2, a3⟩ := p.calm h.1
    obtain ⟨b1, b2, b3⟩ := q.calm h.2
    exact ⟨a1.trans b1, b2.trans a2, b3.trans a3⟩
  · rw [Bool.and_eq_true] at h
    obtain ⟨n1, k1⟩ := p.own h.1
    obtain ⟨n2, k2⟩ := q.own h.2
    refine ⟨List.nodup_append.mpr ⟨n1, n2, fun a ma b mb e => ?_⟩, fun a ma => ?_⟩
    · subst e
      obtain ⟨ob, e, _⟩ := p.rep.dom a ma
      rw [(k2 a mb).1] at e; cases e
    · rcases List.mem_append.mp ma with ma | ma
      · refine ⟨(k1 a ma).1, fun w => ?_⟩
        rcases q.fr.new a w with w | w
        · exact (k1 a ma).2 w
        · obtain ⟨ob, e, _⟩ := p.rep.dom a ma
          rw [w] at e; cases e
      · exact ⟨p.fr.dom a (k2 a ma).1, (k2 a ma).2⟩
def wTup (wr : WA) : WE := fun ρ Q => wr ρ fun ds ρ' => ds.length ≤ sizeLine ∧ Q (.tup ds) ρ'
def wLst (wr : WA) : WE := fun ρ Q => wr ρ fun ds ρ' => ds.length ≤ sizeLine ∧ Q (.lst ds) ρ'
theorem ev_tup {x1} (h : AV X T m o es wr) : EV X T m o (.Tuple es x1 pos) (wTup wr) := by
  obtain ⟨ta, pa, ga⟩ := h
  refine ⟨_, pe_tup pa, fun z R σ H W ρ Q Q' s hw k => ?_⟩
  refine ga z R σ H W ρ _ _ s hw fun vs H1 W1 ds ρ1 F p q => ?_
  obtain ⟨hz, q⟩ := q
  refine ⟨by rw [p.rep.length]; exact hz, fun a ha => k _ _ W1 (.tup ds) ρ1 F ⟨p.sr.same (same_upd ha), p.fr.trans (FrW.same W1 (same_upd ha)), fun h => ⟨(p.calm h).1.trans (same_upd ha), (p.calm h).2⟩, .tup upd_same (p.rep.same (same_upd ha)), p.own⟩ q⟩
theorem ev_lst (h : AV X T m o es wr) : EV X T m o (.List es pos) (wLst wr) := by
  obtain ⟨ta, pa, ga⟩ := h
  refine ⟨_, pe_lst pa, fun z R σ H W ρ Q Q' s hw k => ?_⟩
  refine ga z R σ H W ρ _ _ s hw fun vs H1 W1 ds ρ1 F p q => ?_
  obtain ⟨hz, q⟩ := q
  refine ⟨by rw [p.rep.length]; exact hz, fun a ha => k _ _ W1 (.lst ds) ρ1 (a :: F) ⟨p.sr.same (same_upd ha), p.fr.trans (FrW.same W1 (same_upd ha)), fun h => ⟨(p.calm h).1.trans (same_upd ha), (p.calm h).2⟩, .lst upd_same (p.rep.same (same_upd ha)), fun h => ?_⟩ q⟩
  obtain ⟨n1, k1⟩ := p.own h
  refine ⟨List.nodup_cons.mpr ⟨fun m => ?_, n1⟩, fun b mb => ?_⟩
  · obtain ⟨ob, e, _⟩ := p.rep.dom a m
    rw [ha] at e; cases e
  · rcases List.mem_cons.mp mb with rfl | mb
    · exact ⟨p.fr.dom _ ha, p.sr.nw ha⟩
    · exact k1 b mb
theorem ev_dnewK : EV X T false true (.Dict [] [] pos) (wC (.dik [])) :=
  ⟨_, pe_dnewK, fun z R σ H W ρ Q Q' s hw k a ha => k _ _ W (.dik []) ρ [a] (Post.fin s (FrW.refl H W) (fun _ => ⟨Same.refl H, rfl, rfl⟩) (same_upd ha) (.dik upd_same .nil) (by simp) (fun b m => by rw [List.mem_singleton.mp m]; exact ha)) hw⟩
abbrev GA := List D → (D → Prop) → Prop
def CallD (X : Cx) (f : Value) (g : GA) : Prop :=
  ∃ r, CallR X f r ∧ ∀ (H : Hp) (ds : List D) (xs : List V) (F : List Addr) (k : D → Prop) (Q : VK), Reps X.K H ds xs F → g ds k → (∀ v H' d F', Fin X.K H H' d v F' → k d → Q v H') → r xs H Q
def wCall (g : GA) (wr : WA) : WE := fun ρ Q => wr ρ fun ds ρ' => g ds fun d => Q d ρ'
variable {x : Str} {id T' : String} {p : Pos}
theorem call_fin {g : GA} {r : List V → Hp → VK → Prop} (gr : ∀ (H : Hp) (ds : List D) (xs : List V) (F : List Addr) (k : D → Prop) (Q : VK), Reps X.K H ds xs F → g ds k → (∀ v H' d F', Fin X.K H H' d v F' → k d → Q v H') → r xs H Q)
    {ta : TA} (ga : ∀ (z : Nat → V) (R : Addr → Prop) (σ : St) (H : Hp) (W : Addr → Prop) (ρ : Env) (Q : List D → Env → Prop) (Q' : List V → Hp → Prop), SR X.K T z R H W σ ρ → wr ρ Q →
      (∀ vs H' W' ds ρ' F, PostA X.K T z R m o H W σ ρ H' W' ρ' ds vs F → Q ds ρ' → Q' vs H') → ta σ H Q')
    {z : Nat → V} {R : Addr → Prop} {σ : St} {H : Hp} {W : Addr → Prop} {ρ : Env} {Q : D → Env → Prop} {Q' : VK} (s : SR X.K T z R H W σ ρ) (hw : wCall g wr ρ Q)
    (k : ∀ v H' W' d ρ' F, Post X.K T z R m true H W σ ρ H' W' ρ' d v F → Q d ρ' → Q' v H') : ta σ H fun vs H1 => r vs H1 Q' := by
  refine ga z R σ H W ρ _ _ s hw fun vs H1 W1 ds ρ1 F p q => ?_
  exact gr H1 ds vs F _ Q' p.rep q fun v H' d F' fi hk => k v H' W1 d ρ1 F' (Post.fin p.sr p.fr p.calm fi.same fi.rep fi.nd fi.new) hk
theorem ev_callB {g : GA} (hc : CallD X (.builtin id) g) (hm : X.mg x = none) (hv : bootBuiltins x = some (.builtin id)) (ha : AV X T m o (e :: es) wr) (hg : Gl X x := by rfl) (hn : x ≠ "__name__" := by decide) (hdb : (x == ("__debug__" : Str)) = false := by decide)
    (he : starEach (e :: es) X.env = (false, eval e X.env) :: starEach es X.env := by rfl) (hpl : (backTo pos (starEach es X.env)).any (·.1) = false := by rfl) : EV X T m true (.Call (.Name x p) (e :: es) [] pos) (wCall g wr) := by
  obtain ⟨r, rc, gr⟩ := hc
  obtain ⟨ta, pa, ga⟩ := ha
  exact ⟨_, pe_callB rc hg hm hv pa hn hdb he hpl, fun z R σ H W ρ Q Q' s hw k => call_fin gr ga s hw k⟩
theorem ev_callTy {g : GA} (hc : CallD X (.type T') g) (hm : X.mg x = none) (hv : bootBuiltins x = some (.type T')) (ha : AV X T m o (e :: es) wr) (hg : Gl X x := by rfl) (hn : x ≠ "__name__" := by decide) (hdb : (x == ("__debug__" : Str)) = false := by decide)
    (he : starEach (e :: es) X.env = (false, eval e X.env) :: starEach es X.env := by rfl) (hpl : (backTo pos (starEach es X.env)).any (·.1) = false := by rfl) : EV X T m true (.Call (.Name x p) (e :: es) [] pos) (wCall g wr) := by
  obtain ⟨r, rc, gr⟩ := hc
  obtain ⟨ta, pa, ga⟩ := ha
  exact ⟨_, pe_callTy rc hg hm hv pa hn hdb he hpl, fun z R σ H W ρ Q Q' s hw k => call_fin gr ga s hw k⟩
theorem Reps.at1 {K : PySem.W.Frag} {H : Hp} {d : D} {xs : List V} {F : List Addr} (r : Reps K H [d] xs F) : ∃ v, xs = [v] ∧ Rep K H d v F := by
  cases r with
  | cons h r => cases r; rw [List.append_nil]; exact ⟨_, rfl, h⟩
theorem Reps.at2 {K : PySem.W.Frag} {H : Hp} {d e : D} {xs : List V} {F : List Addr} (r : Reps K H [d, e] xs F) : ∃ v u F1 F2, xs = [v, u] ∧ Rep K H d v F1 ∧ Rep K H e u F2 := by
  cases r with
  | cons h r =>
    obtain ⟨u, rfl, h2⟩ := r.at1
    exact ⟨_, _, _, _, rfl, h, h2⟩
def dLen : GA
  | [.lst xs], k => k (.int xs.length)
  | [.tup xs], k => k (.int xs.length)
  | [.kls xs], k => k (.int xs.length)
  | [.dik xs], k => k (.int xs.length)
  | [.str z], k => z.length ≤ sizeLine ∧ k (.int z.length)
  | _, _ => False
theorem cd_len : CallD X (.builtin "len") dLen := by
  refine ⟨_, CallR.or call_len call_lenD, fun H ds xs F k Q r g q => ?_⟩
  match ds, r, g with
  | [.lst es], r, g =>
    obtain ⟨v, rfl, rd⟩ := r.at1
    clear r
    cases rd with
    | lst e r9 => exact .inl ⟨_, _, rfl, .inl ⟨_, .of e, rfl⟩, by rw [r9.length]; exact q _ _ _ _ (.flat (.int _)) g⟩
  | [.tup es], r, g =>
    obtain ⟨v, rfl, rd⟩ := r.at1
    clear r
    cases rd with
    | tup e r9 => exact .inl ⟨_, _, rfl, .inr ⟨_, .of e, rfl⟩, by rw [r9.length]; exact q _ _ _ _ (.flat (.int _)) g⟩
  | [.kls es], r, g =>
    obtain ⟨v, rfl, rd⟩ := r.at1
    clear r
    cases rd with
    | kls e r9 => exact .inl ⟨_, _, rfl, .inl ⟨_, e.sq, rfl⟩, by rw [r9.length]; exact q _ _ _ _ (.flat (.int _)) g⟩
  | [.dik es], r, g =>
    obtain ⟨v, rfl, rd⟩ := r.at1
    clear r
    cases rd with
    | dik e r9 => exact .inr ⟨_, _, rfl, e, by rw [r9.length]; exact q _ _ _ _ (.flat (.int _)) g⟩
  | [.str es], r, g =>
    obtain ⟨v, rfl, rd⟩ := r.at1
    clear r
    cases rd
    exact .inl ⟨_, _, rfl, ⟨g.1, rfl⟩, q _ _ _ _ (.flat (.int _)) g.2⟩
def dInt : GA
  | [.int i], k => k (.int i)
  | [.bl b], k => k (.int (if b then 1 else 0))
  | _, _ => False
theorem cd_int : CallD X (.type "int") dInt := by
  refine ⟨_, call_int1, fun H ds xs F k Q r g q => ?_⟩
  match ds, r, g with
  | [.int i], r, g =>
    obtain ⟨v, rfl, rd⟩ := r.at1
    cases rd
    exact .inl ⟨_, rfl, q _ _ _ _ (.flat (.int _)) g⟩
  | [.bl i], r, g =>
    obtain ⟨v, rfl, rd⟩ := r.at1
    cases rd
    exact .inr ⟨_, rfl, q _ _ _ _ (.flat (.int _)) g⟩
def dMin2 : GA
  | [.int i, .int j], k => k (.int (if j < i then j else i))
  | _, _ => False
theorem cd_min2 (hc : X.calm = true) : CallD X (.builtin "min") dMin2 := by
  refine ⟨_, call_min2 hc, fun H ds xs F k Q r g q => ?_⟩
  match ds, r, g with
  | [.int i, .int j], r, g =>
    obtain ⟨v, u, F1, F2, rfl, r1, r2⟩ := r.at2
    cases r1; cases r2
    exact ⟨_, _, rfl, q _ _ _ _ (.flat (.int _)) g⟩
def dList : GA
  | [.lst xs], k => pureL xs = true ∧ k (.lst xs)
  | [.tup xs], k => pureL xs = true ∧ k (.lst xs)
  | [.kls xs], k => pureL xs = true ∧ k (.lst xs)
  | _, _ => False
def dTuple : GA
  | [.lst xs], k => pureL xs = true ∧ k (.tup xs)
  | [.tup xs], k => pureL xs = true ∧ k (.tup xs)
  | [.kls xs], k => pureL xs = true ∧ k (.tup xs)
  | _, _ => False
theorem cd_tuple : CallD X (.type "tuple") dTuple := by
  refine ⟨_, call_tuple_of, fun H ds xs F k Q r g q => ?_⟩
  match ds, r, g with
  | [.lst es], r, g =>
    obtain ⟨v, rfl, rd⟩ := r.at1
    clear r
    cases rd with
    | lst e r9 => exact ⟨_, _, rfl, .inl ⟨.of e, fun l hl => q _ _ _ [] ⟨same_upd hl, .tup upd_same ((r9.pure g.1).2.same (same_upd hl)), by simp, fun b m => nomatch m⟩ g.2⟩⟩
  | [.tup es], r, g =>
    obtain ⟨v, rfl, rd⟩ := r.at1
    clear r
    cases rd with
    | tup e r9 => exact ⟨_, _, rfl, .inr ⟨.of e, q _ _ _ _ (.flat (.tup e (r9.pure g.1).2)) g.2⟩⟩
  | [.kls es], r, g =>
    obtain ⟨v, rfl, rd⟩ := r.at1
    clear r
    cases rd with
    | kls e r9 => exact ⟨_, _, rfl, .inl ⟨e.sq, fun l hl => q _ _ _ [] ⟨same_upd hl, .tup upd_same ((r9.pure g.1).2.same (same_upd hl)), by simp, fun b m => nomatch m⟩ g.2⟩⟩
end
end PV
set_option Elab.async false
set_option linter.all false
set_option maxRecDepth 100000
set_option maxHeartbeats 4000000
namespace PV
open PySem PySem.Spec L2
section
variable {X : Cx} {T : Tg} {m o m1 m2 m3 o1 o2 : Bool} {e a b : Expr} {w wa wb : WE} {pos p2 p : Pos} {es : List Expr} {wr : WA} {x : Str}
def isiD : D → Ty → Option Bool
  | .non, _ => some false
  | .bl _, t => some (t == .bool || t == .int)
  | .int _, t => some (t == .int)
  | .str _, t => some (t == .str)
  | .tup _, t => some (t == .tuple)
  | .lst _, t => some (t == .list)
  | .dik _, t => some (t == .dict)
  | .dit _, t => some (t == .dict)
  | .kls _, _ => none
  | .ty _, _ => none
  | .fdk _, _ => none
  | .ftp _, _ => none
  | .fls _, t => some (t == .list)
  | .fdt _, _ => none
def dIsi : GA
  | [d, .ty t], k => oget (isiD d t) fun b => k (.bl b)
  | _, _ => False
theorem SR0.write {K : PySem.W.Frag} {z : Nat → V} {R : Addr → Prop} {H H' : Hp} {W : Addr → Prop} {σ : St} {ρ : Env} {fp : Nat → List Addr} {i : Nat} {d d' : D} {v : V} {l : Addr} {F' : List Addr} (s : SR0 K T z R H W σ ρ fp)
    (hl : look ρ i = some d) (ht : T.own i = true) (hv : σ[i]? = some (some v)) (hm : l ∈ fp i) (hk : ∀ b u, H b = some u → b ≠ l → H' b = some u) (hnew : ∃ ob, H' l = some ob ∧ imm ob = false) (r : Rep K H' d' v F') (nd : F'.Nodup)
    (sub : ∀ a ∈ F', a ∈ fp i ∨ (¬ W a ∧ ¬ R a)) : SR K T z R H' (fun a => W a ∨ a ∈ F') σ (ρ.set i (some d')) := by
  have hW : W l := (s.own i d hl ht).2 l hm
  have hi : ImmK H H' := fun b ob' e im => by
    obtain ⟨ol, e1, e2⟩ := s.wd l hW
    have : b ≠ l := fun z => by rw [z, e1] at e; cases e; rw [e2] at im; cases im
    exact hk b _ e this
  refine ⟨fun j => if j = i then F' else fp j, ?_, ?_, ?_, ?_, ?_, ?_, ?_, ?_, s.fix⟩
  · rw [List.length_set]; exact s.len
  · intro a ha
    by_cases e : a = l
    · subst e; exact hnew
    · rcases ha with ha | ha
      · exact (s.wd a ha).imp fun ob q => ⟨hk a ob q.1 e, q.2⟩
      · exact r.dom a ha
  · intro j e hj
    by_cases hji : j = i
    · subst hji
      rw [look_set_same (look_lt hl)] at hj
      cases hj
      exact ⟨v, hv, by rw [if_pos rfl]; exact r⟩
    · rw [look_set_ne hji] at hj
      obtain ⟨u, h1, h2⟩ := s.at_ j e hj
      refine ⟨u, h1, ?_⟩
      rw [if_neg hji]
      refine h2.frame hi fun a ha => ?_
      obtain ⟨oa, e1, _⟩ := h2.dom a ha
      rw [e1]
      refine hk a _ e1 fun z => ?_
      subst z
      cases hto : T.own j with
      | true => exact s.dis i j d e hl hj ht hto (fun z => hji z.symm) _ hm ha
      | false => exact s.wr _ hW (s.ro j e hj hto _ ha)
  · intro j e hj hto
    by_cases hji : j = i
    · subst hji; simp only [if_pos]; exact ⟨nd, fun a h => .inr h⟩
    · rw [look_set_ne hji] at hj
      simp only [if_neg hji]
      exact ⟨(s.own j e hj hto).1, fun a h => .inl ((s.own j e hj hto).2 a h)⟩
  · intro j e hj hto
    have hji : j ≠ i := fun z => by subst z; rw [ht] at hto; cases hto
    rw [look_set_ne hji] at hj
    simp only [if_neg hji]
    exact s.ro j e hj hto
  · intro a ha hr
    rcases ha with ha | ha
    · exact s.wr a ha hr
    · rcases sub a ha with h | h
      · exact s.wr a ((s.own i d hl ht).2 a h) hr
      · exact h.2 hr
  · intro a hr
    have : a ≠ l := fun z => by subst z; exact s.wr _ hW hr
    exact (s.rd a hr).imp fun ob q => ⟨hk a ob q.1 this, q.2⟩
  · intro j k e e' hj hk tj tk hne a ha ha'
    by_cases hji : j = i
    · subst hji
      have hkj : k ≠ j := fun z => hne z.symm
      rw [look_set_ne hkj] at hk
      simp only [if_pos, if_neg hkj] at ha ha'
      rcases sub a ha with h | h
      · exact s.dis j k d e' hl hk ht tk hne a h ha'
      · exact h.1 ((s.own k e' hk tk).2 a ha')
    · rw [look_set_ne hji] at hj
      simp only [if_neg hji] at ha
      by_cases hki : k = i
      · subst hki
        simp only [if_pos] at ha'
        rcases sub a ha' with h | h
        · exact s.dis j k e d hj hl tj ht hne a ha h
        · exact h.1 ((s.own j e hj tj).2 a ha)
      · rw [look_set_ne hki] at hk
        simp only [if_neg hki] at ha'
        exact s.dis j k e e' hj hk tj tk hne a ha ha'
theorem FrW.write {H0 H H' : Hp} {W0 W : Addr → Prop} {l : Addr} {F' : List Addr} (f : FrW H0 W0 H W) (hl : W l) (hm : ∃ ol, H l = some ol ∧ PV.imm ol = false) (hk : ∀ b u, H b = some u → b ≠ l → H' b = some u) (hnew : ∃ ob, H' l = some ob ∧ PV.imm ob = false)
    (sub : ∀ a ∈ F', W a ∨ H0 a = none) : FrW H0 W0 H' (fun a => W a ∨ a ∈ F') where
  keep := fun b ob' e n => by
    have : b ≠ l := fun z => by
      subst z
      rcases f.new _ hl with h | h
      · exact n h
      · rw [h] at e; cases e
    exact hk b _ (f.keep b ob' e n) this
  dom := fun b e => by
    by_cases h : b = l
    · subst h
      obtain ⟨ob, e1, _⟩ := hnew
      rw [e1] at e; cases e
    · refine f.dom b ?_
      cases q : H b with
      | none => rfl
      | some u => rw [hk b u q h] at e; cases e
  imm := fun b ob' e im => by
    have e' := f.imm b ob' e im
    obtain ⟨ol, e1, e2⟩ := hm
    have : b ≠ l := fun z => by rw [z, e1] at e'; cases e'; rw [e2] at im; cases im
    exact hk b _ e' this
  new := fun b h => by
    rcases h with h | h
    · exact f.new b h
    · rcases sub b h with h | h
      · exact f.new b h
      · exact .inr h
theorem upd_keep {H : Hp} {l : Addr} {ob : HO} : ∀ b u, H b = some u → b ≠ l → upd H l ob b = some u := fun b u e n => by rw [upd_ne n]; exact e
abbrev GM := D → List D → (D → D → Prop) → Prop
def MtD (X : Cx) (id : String) (g : GM) : Prop :=
  ∃ r, MtR X id r ∧ ∀ (H : Hp) (d : D) (ds : List D) (v : V) (xs : List V) (F G : List Addr) (k : D → D → Prop) (Q : VK), Rep X.K H d v F → F.Nodup → Reps X.K H ds xs G → G.Nodup → (∀ a ∈ G, a ∉ F) → g d ds k →
    (∀ u l ob e d' F', l ∈ F → imm ob = false → Rep X.K (upd H l ob) d' v F' → F'.Nodup → (∀ a ∈ F', a ∈ F ∨ a ∈ G) → Rep X.K (upd H l ob) e u [] → k e d' → Q u (upd H l ob)) → r v xs H Q
def tyD : Option D → String → Bool
  | some (.lst _), t => t == "list"
  | some (.dik _), t => t == "dict"
  | some (.dit _), t => t == "dict"
  | _, _ => false
theorem tyV_of {K : PySem.W.Frag} {H : Hp} {d : D} {v : V} {F : List Addr} {t : String} (r : Rep K H d v F) (h : tyD (some d) t = true) : tyV K t v H := by
  cases r <;> try (simp [tyD] at h)
  · subst h; exact .inl ⟨rfl, _, .of ‹_›⟩
  · subst h; exact .inr (.inr (.inl ⟨rfl, .inl ⟨_, ‹_›⟩⟩))
  · subst h; exact .inr (.inr (.inl ⟨rfl, .inr ⟨_, ‹_›⟩⟩))
def wMt (i : Nat) (t : String) (g : GM) (wr : WA) : WE := fun ρ Q => tyD (look ρ i) t = true ∧ wr ρ fun ds ρ1 => oget (look ρ1 i) fun d => g d ds fun e d' => Q e (ρ1.set i (some d'))
theorem mt_fin {i : Nat} {t : String} {g : GM} {r : V → List V → Hp → VK → Prop} (ht : T.own i = true)
    (gr : ∀ (H : Hp) (d : D) (ds : List D) (v : V) (xs : List V) (F G : List Addr) (k : D → D → Prop) (Q : VK), Rep X.K H d v F → F.Nodup → Reps X.K H ds xs G → G.Nodup → (∀ a ∈ G, a ∉ F) → g d ds k →
      (∀ u l ob e d' F', l ∈ F → imm ob = false → Rep X.K (upd H l ob) d' v F' → F'.Nodup → (∀ a ∈ F', a ∈ F ∨ a ∈ G) → Rep X.K (upd H l ob) e u [] → k e d' → Q u (upd H l ob)) → r v xs H Q)
    {ta : TA} (ga : ∀ (z : Nat → V) (R : Addr → Prop) (σ : St) (H : Hp) (W : Addr → Prop) (ρ : Env) (Q : List D → Env → Prop) (Q' : List V → Hp → Prop), SR X.K T z R H W σ ρ → wr ρ Q →
      (∀ vs H' W' ds ρ' F, PostA X.K T z R m true H W σ ρ H' W' ρ' ds vs F → Q ds ρ' → Q' vs H') → ta σ H Q')
    {z : Nat → V} {R : Addr → Prop} {σ : St} {H : Hp} {W : Addr → Prop} {ρ : Env} {Q : D → Env → Prop} {Q' : VK} (s : SR X.K T z R H W σ ρ) (hw : wMt i t g wr ρ Q)
    (k : ∀ v H' W' d ρ' F, Post X.K T z R true true H W σ ρ H' W' ρ' d v F → Q d ρ' → Q' v H') : tVar i σ H fun x H1 => tyV X.K t x H1 ∧ ta σ H1 fun xs H2 => r x xs H2 Q' := by
  obtain ⟨hty, hw⟩ := hw
  obtain ⟨fp0, s0⟩ := id s
  cases hl : look ρ i with
  | none => rw [hl] at hty; cases hty
  | some d0 =>
    obtain ⟨v, hv, r0⟩ := s0.at_ i d0 hl
    refine ⟨v, hv, tyV_of r0 (by rw [hl] at hty; exact hty), ?_⟩
    refine ga z R σ H W ρ _ _ s hw fun vs H1 W1 ds ρ1 G p q => ?_
    obtain ⟨d, hd, q⟩ := oget_some q
    obtain ⟨fp, s1⟩ := id p.sr
    obtain ⟨v', hv', r1⟩ := s1.at_ i d hd
    have : v' = v := by rw [hv] at hv'; cases hv'; rfl
    subst this
    obtain ⟨nd1, sw⟩ := s1.own i d hd ht
    obtain ⟨ndG, kG⟩ := p.own rfl
    refine gr H1 d ds v' vs (fp i) G _ Q' r1 nd1 p.rep ndG (fun a ha hf => (kG a ha).2 (sw a hf)) q fun u l ob e d' F' hlF him rd' ndF sub re hk => ?_
    have hWl := sw l hlF
    refine k u _ (fun a => W1 a ∨ a ∈ F') e _ [] ⟨s1.write hd ht hv' hlF upd_keep ⟨ob, upd_same, him⟩ rd' ndF (fun a ha => ?_), p.fr.write hWl (s1.wd l hWl) upd_keep ⟨ob, upd_same, him⟩ (fun a ha => ?_), (fun h => nomatch h), re, fun _ => ⟨List.nodup_nil, fun a m => nomatch m⟩⟩ hk
    · rcases sub a ha with h | h
      · exact .inl h
      · exact .inr ⟨(kG a h).2, s.nr (kG a h).1⟩
    · rcases sub a ha with h | h
      · exact .inl (sw a h)
      · exact .inr (kG a h).1
variable {name : Str} {apos cpos : Pos} {T' id : String}
theorem ev_mt {i : Nat} {g : GM} (hm : MtD X id g) (pa : PlainAttrs T') (slot : Slot T' name id) (hty : typeOf (.builtin id) = pure (.type "method_descriptor")) (ha : AV X T m true (e :: es) wr)
    (ht : T.own i = true := by rfl) (hN : X.N[i]? = some x := by rfl) (hv : Vis X.env.scope x := by first | exact Or.inl rfl | exact Or.inr (Or.inl rfl) | exact Or.inr (Or.inr rfl)) (hd : (x == ("__debug__" : Str)) = false := by decide)
    (hcd : (x == ("__classdict__" : Str)) = false := by decide)
    (hbase : attributeBase (.Name x p) name X.env (eval (.Name x p) X.env) = eval (.Name x p) X.env := by rfl)
    (hfew : ((backTo cpos (starEach (e :: es) X.env)).all (fun x => !x.1) && (backToKw cpos (keywordEach [] X.env)).all (fun x => x.1.isSome)
      && decide ((e :: es).length + ([] : List Keyword).length + (if ([] : List Keyword).isEmpty then 0 else 1) < 30)) = true := by rfl)
    (hline : (apos.endLine == cpos.line) = true := by rfl) (hs : starEach (e :: es) X.env = (false, eval e X.env) :: starEach es X.env := by rfl) (hplain : (backTo cpos (starEach es X.env)).any (·.1) = false := by rfl) :
    EV X T true true (.Call (.Attribute (.Name x p) name apos) (e :: es) [] cpos) (wMt i T' g wr) := by
  obtain ⟨r, mr, gr⟩ := hm
  obtain ⟨ta, pa', ga⟩ := ha
  exact ⟨_, pe_bm pa slot hty mr (pe_var hN hv hd hcd) pa' hbase hfew hline hs hplain, fun z R σ H W ρ Q Q' s hw k => mt_fin ht gr ga s hw k⟩
def gAppend : GM
  | .lst xs, [d], k => xs.length < sizeLine ∧ k .non (.lst (xs ++ [d]))
  | _, _, _ => False
theorem nodup_ins {α : Type} {F G : List α} (h : F.Nodup) (h' : G.Nodup) (d : ∀ a ∈ G, a ∉ F) : (F ++ G).Nodup :=
  List.nodup_append.mpr ⟨h, h', fun a ha b hb e => d b hb (e ▸ ha)⟩
theorem imm_upd {H : Hp} {l : Addr} {ob ob' : HO} (h : H l = some ob) (hi : imm ob = false) : ImmK H (upd H l ob') := fun b u e im => by
  have : b ≠ l := fun z => by rw [z, h] at e; cases e; rw [hi] at im; cases im
  rw [upd_ne this]; exact e
theorem Reps.upd {K : PySem.W.Frag} {H : Hp} {ds : List D} {xs : List V} {F : List Addr} {l : Addr} {ob ob' : HO} (r : Reps K H ds xs F) (h : H l = some ob) (hi : imm ob = false) (hn : l ∉ F) : Reps K (L2.upd H l ob') ds xs F :=
  r.frame (imm_upd h hi) fun a ha => upd_ne fun z => hn (z ▸ ha)
theorem Rep.upd {K : PySem.W.Frag} {H : Hp} {d : D} {x : V} {F : List Addr} {l : Addr} {ob ob' : HO} (r : Rep K H d x F) (h : H l = some ob) (hi : imm ob = false) (hn : l ∉ F) : Rep K (L2.upd H l ob') d x F :=
  r.frame (imm_upd h hi) fun a ha => upd_ne fun z => hn (z ▸ ha)
theorem RepK.upd {K : PySem.W.Frag} {H : Hp} {ds : List (Key × D)} {xs : List (Key × V)} {F : List Addr} {l : Addr} {ob ob' : HO} (r : RepK K H ds xs F) (h : H l = some ob) (hi : imm ob = false) (hn : l ∉ F) : RepK K (L2.upd H l ob') ds xs F :=
  r.frame (imm_upd h hi) fun a ha => upd_ne fun z => hn (z ▸ ha)
theorem RepT.upd {K : PySem.W.Frag} {H : Hp} {ds : List (List Key × D)} {xs : List (List Key × V)} {F : List Addr} {l : Addr} {ob ob' : HO} (r : RepT K H ds xs F) (h : H l = some ob) (hi : imm ob = false) (hn : l ∉ F) : RepT K (L2.upd H l ob') ds xs F :=
  r.frame (imm_upd h hi) fun a ha => upd_ne fun z => hn (z ▸ ha)
def gPopAt : GM
  | .lst xs, [.int i], k => -(2 ^ 63) ≤ i ∧ i < 2 ^ 63 ∧ oget (seqIndex? i xs.length) fun j => oget xs[j]? fun d => d.pure = true ∧ k d (.lst (xs.eraseIdx j))
  | _, _, _ => False
theorem sub3 {α : Type} {F A B C : List α} (h : F = A ++ B ++ C) : (A ++ C).Sublist F := by
  rw [h, List.append_assoc]
  exact List.Sublist.append (List.Sublist.refl _) (List.sublist_append_right _ _)
theorem md_popAt : MtD X "list.pop" gPopAt := by
  refine ⟨_, mt_popAt, fun H d ds v xs F G k Q r nd rs ndG dis g q => ?_⟩
  match d, ds, r, rs, g with
  | .lst es, [.int i], r, rs, g =>
    obtain ⟨u, rfl, rd⟩ := rs.at1
    cases rd
    cases r with
    | @lst l ys _ F e r9 =>
      obtain ⟨h1, h2, g⟩ := g
      obtain ⟨j, hj, g⟩ := oget_some g
      obtain ⟨d, hd, hp, g⟩ := oget_some g
      obtain ⟨nl, nd⟩ := List.nodup_cons.mp nd
      obtain ⟨y, A, B, C, hy, hF, rB, rA, rC⟩ := r9.split hd
      obtain ⟨hB, rB⟩ := rB.pure hp
      have sub := sub3 hF
      have nAC : l ∉ A ++ C := fun h => nl (sub.subset h)
      refine ⟨l, ys, i, j, y, rfl, rfl, e, h1, h2, by rw [r9.length]; exact hj, hy, ?_⟩
      refine q y l _ d _ (l :: (A ++ C)) List.mem_cons_self rfl (.lst upd_same ?_) (List.nodup_cons.mpr ⟨nAC, nd.sublist sub⟩) (fun a ha => ?_) (rB.upd e rfl (fun h => nomatch h)) g
      · rw [erase_td, erase_td]
        exact (rA.append rC).upd e rfl nAC
      · rcases List.mem_cons.mp ha with rfl | ha
        · exact .inl List.mem_cons_self
        · exact .inl (List.mem_cons_of_mem _ (sub.subset ha))
end
end PV
set_option Elab.async false
set_option linter.all false
set_option maxRecDepth 100000
set_option maxHeartbeats 4000000
namespace PV
open PySem PySem.Spec L2
def spR (K : PySem.W.Frag) (g : GA) : Sp := fun vs H Q _ => ∃ (ds : List D) (F : List Addr) (k : D → Prop), Reps K H ds vs F ∧ g ds k ∧ ∀ v H' d F', Fin K H H' d v F' → k d → Q v H'
abbrev GI := List D → (D → D → Prop) → Prop
def spI (K : PySem.W.Frag) (p : Nat) (g : GI) : Sp := fun vs H Q _ => ∃ (ds : List D) (a : Addr) (k : D → D → Prop), Reps K H ds vs [a] ∧ vs[p]? = some (.ref a) ∧ g ds k ∧
  ∀ v H' d d' F', Rep K H' d' (.ref a) [a] → Rep K H' d v F' → F'.Nodup → (∀ b ∈ F', H b = none) → (∀ b o, H b = some o → b ≠ a → H' b = some o) → k d d' → Q v H'
def flatD : D → Bool
  | .lst xs => pureL xs
  | .dik kvs => kvs.all fun kv => kv.2.pure
  | .dit kvs => kvs.all fun kv => kv.2.pure
  | _ => false
theorem RepK.pure {K : PySem.W.Frag} {H : Hp} : ∀ {ds : List (Key × D)} {xs : List (Key × V)} {F : List Addr}, RepK K H ds xs F → (ds.all fun kv => kv.2.pure) = true → F = []
  | [], _, _, r, _ => by cases r; rfl
  | d :: ds, _, _, r, h => by
    rw [List.all_cons, Bool.and_eq_true] at h
    cases r with
    | cons p r => rw [(p.pure h.1).1, RepK.pure r h.2]; rfl
theorem RepT.pure {K : PySem.W.Frag} {H : Hp} : ∀ {ds : List (List Key × D)} {xs : List (List Key × V)} {F : List Addr}, RepT K H ds xs F → (ds.all fun kv => kv.2.pure) = true → F = []
  | [], _, _, r, _ => by cases r; rfl
  | d :: ds, _, _, r, h => by
    rw [List.all_cons, Bool.and_eq_true] at h
    cases r with
    | cons p r => rw [(p.pure h.1).1, RepT.pure r h.2]; rfl
theorem Rep.flat1 {K : PySem.W.Frag} {H : Hp} {d : D} {v : V} {F : List Addr} (r : Rep K H d v F) (h : flatD d = true) : ∃ a, v = .ref a ∧ F = [a] := by
  cases r with
  | lst e r => exact ⟨_, rfl, by rw [(r.pure (by simpa [flatD] using h)).1]⟩
  | dik e r => exact ⟨_, rfl, by rw [r.pure (by simpa [flatD] using h)]⟩
  | dit e r => exact ⟨_, rfl, by rw [r.pure (by simpa [flatD] using h)]⟩
  | _ => simp [flatD] at h
section
variable {X : Cx} {T : Tg} {m o m0 m1 m2 m3 o1 o2 : Bool} {e a b : Expr} {w wa wb : WE} {pos p2 p : Pos} {es : List Expr} {wr : WA} {x : Str} {k : Nat} {f : Addr} {fd : FuncData} {ps : List Str}
theorem ev_call {g : GA} (F : FnOk X.prog X.w X.K X.mg X.base CX0 k f fd ps (spR X.K g)) (hr : Room k X.A) (hm : X.mg x = some (.ref f)) (hk : PySem.W.keepIn X.K (.ref f) = true) (hb : Binds X.K fd ps []) (ha : AV X T m o (e :: es) wr) (hg : Gl X x := by rfl)
    (hdb : (x == ("__debug__" : Str)) = false := by decide) (he : starEach (e :: es) X.env = (false, eval e X.env) :: starEach es X.env := by rfl) (hpl : (backTo pos (starEach es X.env)).any (·.1) = false := by rfl) :
    EV X T m true (.Call (.Name x p) (e :: es) [] pos) (wCall g wr) := by
  obtain ⟨ta, pa, ga⟩ := ha
  refine ⟨_, pe_call F hr hg hm hk hb .nil pass0 pa hdb he hpl, fun z R σ H W ρ Q Q' s hw k => ?_⟩
  refine ga z R σ H W ρ _ _ s hw fun vs H1 W1 ds ρ1 F p q => ?_
  refine ⟨ds, F, _, by rw [List.append_nil]; exact p.rep, q, fun v H' d F' fi hk => k v H' W1 d ρ1 F' (Post.fin p.sr p.fr p.calm fi.same fi.rep fi.nd fi.new) hk⟩
abbrev WI := Env → (List D → List D → Env → Prop) → Prop
def AI (X : Cx) (T : Tg) (m : Bool) (i p : Nat) (es : List Expr) (w : WI) : Prop :=
  ∃ ta, PA X es ta ∧ ∀ (z : Nat → V) (R : Addr → Prop) (σ : St) (H : Hp) (W : Addr → Prop) (ρ : Env) (Q : List D → List D → Env → Prop) (Q' : List V → Hp → Prop), SR X.K T z R H W σ ρ → w ρ Q →
    (∀ v xs ys H' W' pre post ρ', PostT X.K T z R m H W σ ρ H' W' ρ' → σ[i]? = some (some v) → Reps X.K H' pre xs [] → Reps X.K H' post ys [] → pre.length = p → Q pre post ρ' → Q' (xs ++ v :: ys) H') → ta σ H Q'
def wHere (i : Nat) (wr : WA) : WI := fun ρ Q => (look ρ i).isSome = true ∧ wr ρ fun ds ρ' => pureL ds = true ∧ Q [] ds ρ'
theorem ai_here {i : Nat} (hr : AV X T m o es wr) (hN : X.N[i]? = some x := by rfl) (hv : Vis X.env.scope x := by first | exact Or.inl rfl | exact Or.inr (Or.inl rfl) | exact Or.inr (Or.inr rfl)) (hd : (x == ("__debug__" : Str)) = false := by decide)
    (hcd : (x == ("__classdict__" : Str)) = false := by decide) (hs : starEach (.Name x p :: es) X.env = (false, eval (.Name x p) X.env) :: starEach es X.env := by rfl) : AI X T m i 0 (.Name x p :: es) (wHere i wr) := by
  obtain ⟨ta, pa, ga⟩ := hr
  refine ⟨_, pa_cons (pe_var hN hv hd hcd) pa hs, fun z R σ H W ρ Q Q' s hw k => ?_⟩
  obtain ⟨h1, hw⟩ := hw
  obtain ⟨d, hl⟩ := Option.isSome_iff_exists.mp h1
  obtain ⟨fp, s0⟩ := id s
  obtain ⟨v, hv', _⟩ := s0.at_ i d hl
  refine ⟨v, hv', ga z R σ H W ρ _ _ s hw fun vs H1 W1 ds ρ1 F p q => ?_⟩
  exact k v [] vs H1 W1 [] ds ρ1 ⟨p.sr, p.fr, p.calm⟩ hv' .nil (p.rep.pure q.1).2 rfl q.2
def wSkip (w : WE) (wi : WI) : WI := fun ρ Q => w ρ fun d ρ1 => d.pure = true ∧ wi ρ1 fun pre post ρ2 => Q (d :: pre) post ρ2
theorem ai_skip {i q : Nat} {wi : WI} (he : EV X T m1 o e w) (hr : AI X T m2 i q es wi) (hs : starEach (e :: es) X.env = (false, eval e X.env) :: starEach es X.env := by rfl) : AI X T (m1 || m2) i (q + 1) (e :: es) (wSkip w wi) := by
  obtain ⟨te, pe, ge⟩ := he
  obtain ⟨ta, pa, ga⟩ := hr
  refine ⟨_, pa_cons pe pa hs, fun z R σ H W ρ Q Q' s hw k => ?_⟩
  refine ge z R σ H W ρ _ _ s hw fun v1 H1 W1 d1 ρ1 F1 p ⟨hp, q1⟩ => ?_
  obtain ⟨_, r1⟩ := p.rep.pure hp
  refine ga z R σ H1 W1 ρ1 _ _ p.sr q1 fun v xs ys H2 W2 pre post ρ2 q hv rp rq hl q2 => ?_
  exact k v (v1 :: xs) ys H2 W2 (d1 :: pre) post ρ2 (PostT.seq ⟨p.sr, p.fr, p.calm⟩ q) hv (.cons (F := []) (G := []) (r1.keep q.fr fun a m => nomatch m) rp) rq (by rw [List.length_cons, hl]) q2
def wCallI (i : Nat) (g : GI) (wi : WI) : WE := fun ρ Q => wi ρ fun pre post ρ1 => oget (look ρ1 i) fun d0 => flatD d0 = true ∧ g (pre ++ d0 :: post) fun d d' => Q d (ρ1.set i (some d'))
theorem ev_callI {i q : Nat} {g : GI} {wi : WI} (F : FnOk X.prog X.w X.K X.mg X.base CX0 k f fd ps (spI X.K q g)) (hr : Room k X.A) (hm : X.mg x = some (.ref f)) (hk : PySem.W.keepIn X.K (.ref f) = true) (hb : Binds X.K fd ps []) (ha : AI X T m i q (e :: es) wi)
    (ht : T.own i = true := by rfl) (hg : Gl X x := by rfl)
    (hdb : (x == ("__debug__" : Str)) = false := by decide) (he : starEach (e :: es) X.env = (false, eval e X.env) :: starEach es X.env := by rfl) (hpl : (backTo pos (starEach es X.env)).any (·.1) = false := by rfl) :
    EV X T true true (.Call (.Name x p) (e :: es) [] pos) (wCallI i g wi) := by
  obtain ⟨ta, pa, ga⟩ := ha
  refine ⟨_, pe_call F hr hg hm hk hb .nil pass0 pa hdb he hpl, fun z R σ H W ρ Q Q' s hw k => ?_⟩
  refine ga z R σ H W ρ _ _ s hw fun v xs ys H1 W1 pre post ρ1 p hv rp rq hl q => ?_
  obtain ⟨d0, hd, hf, q⟩ := oget_some q
  obtain ⟨fp, s1⟩ := id p.sr
  obtain ⟨v', hv', r0⟩ := s1.at_ i d0 hd
  have : v' = v := by rw [hv] at hv'; cases hv'; rfl
  subst this
  obtain ⟨a, rfl, hF⟩ := r0.flat1 hf
  rw [hF] at r0
  have sw := (s1.own i d0 hd ht).2
  have hWa : W1 a := sw a (by rw [hF]; exact List.mem_singleton.mpr rfl)
  refine ⟨pre ++ d0 :: post, a, _, ?_, ?_, q, fun v H' d d' F' rd' rd nd new kp hk => ?_⟩
  · rw [List.append_nil]
    have := rp.append (.cons r0 rq)
    simpa using this
  · rw [List.append_nil]
    have hx := rp.length
    rw [List.getElem?_append_right (by omega), show _ - xs.length = 0 by omega]
    rfl
  · obtain ⟨oa, ea, ia⟩ := s1.wd a hWa
    have hnew : ∃ ob, H' a = some ob ∧ imm ob = false := rd'.dom a (List.mem_singleton.mpr rfl)
    have nd1 : ([a] : List Addr).Nodup := by simp
    have sN := s1.write (H' := H') (d' := d') (F' := [a]) hd ht hv' (by rw [hF]; exact List.mem_singleton.mpr rfl) (fun b u e n => kp b u e n) hnew rd' nd1 (fun b hb => .inl (by rw [hF]; exact hb))
    have fN := p.fr.write (H' := H') (F' := [a]) hWa ⟨oa, ea, ia⟩ (fun b u e n => kp b u e n) hnew (fun b hb => .inl (by rw [List.mem_singleton.mp hb]; exact hWa))
    refine k v H' _ d _ F' ⟨sN, fN, (fun h => nomatch h), rd, fun _ => ⟨nd, fun b hb => ⟨p.fr.dom b (new b hb), fun hw => ?_⟩⟩⟩ hk
    rcases hw with hw | hw
    · exact p.sr.nw (new b hb) hw
    · rw [List.mem_singleton.mp hw] at hb
      rw [new a hb] at ea; cases ea
abbrev WL := Env → (List D → Env → Prop) → Prop
def JD (K : PySem.W.Frag) (J : It) (H : Hp) (W : Addr → Prop) (ds : List D) : Prop :=
  ∀ (i : Nat) (H1 : Hp) (W1 : Addr → Prop), FrW H W H1 W1 → (ds.length ≤ i → J.stop i H1) ∧ ∀ d, ds[i]? = some d → J.go i H1 ∧ ∀ v H2, J.yld i H1 v H2 → Same H1 H2 ∧ ∃ F, Rep K H2 d v F ∧ ∀ a ∈ F, ¬ W1 a
def wz (pr : Bool) (W : Addr → Prop) : Addr → Prop := fun a => pr = true ∧ W a
def IV (X : Cx) (T : Tg) (m pr : Bool) (tg iter : Expr) (w : WL) : Prop :=
  ∃ wi, PI X tg iter wi ∧ ∀ (z : Nat → V) (R : Addr → Prop) (σ : St) (H : Hp) (W : Addr → Prop) (ρ : Env) (Q : List D → Env → Prop) (RR : It → Hp → Prop), SR X.K T z R H W σ ρ → w ρ Q →
    (∀ J H' W' ds ρ', PostT X.K T z R m H W σ ρ H' W' ρ' → JD X.K J H' (wz pr W') ds → Q ds ρ' → RR J H') → wi σ H RR
variable {tg iter : Expr}
theorem pi_seq {l : Expr} {tl : TE} (hl : PE X l tl) : PI X tg l (fun σ H R => tl σ H fun x H1 => ∃ a, x = .ref a ∧ (((∃ xs, SqL X.K H1 a xs) ∧ R (Itl X.K a) H1) ∨ ((∃ xs, SqT X.K H1 a xs) ∧ R (Itt X.K a) H1))) := by
  intro pins s σ H R I h
  refine thn (hl pins s σ H _ I h) fun v s1 ⟨x, H1, I1, r1, q1⟩ => ?_
  obtain ⟨a, e, q⟩ := q1
  subst e
  cases r1
  rcases q with ⟨⟨xs, hq⟩, q⟩ | ⟨⟨xs, hq⟩, q⟩
  · obtain ⟨its, rv, p, hz⟩ := I1.list hq
    refine wpAny_pyIter_list p.isList ?_
    refine ⟨s1.heap.objs.size, [s1.heap.objs.size], _, _, H1, rfl, I1.kept (t' := s1.toks) fun b o e => Heap.get?_push_of_some _ e, turn_list a _, ⟨_, Heap.get?_push_size _ rfl, rfl, rfl⟩, fun b hb => ?_, q⟩
    have e : b = s1.heap.objs.size := by simpa using hb
    subst e
    exact I1.fpOk (Nat.le_refl _) (I1.hok.fresh (Nat.le_refl _))
  · obtain ⟨its, rv, p, hz⟩ := I1.tuple hq
    refine wpAny_pyIter_tuple (show s1.heap.IsTuple a its.toArray from p) ?_
    refine ⟨s1.heap.objs.size, [s1.heap.objs.size], _, _, H1, rfl, I1.kept (t' := s1.toks) fun b o e => Heap.get?_push_of_some _ e, turn_tuple a _, ⟨_, Heap.get?_push_size _ rfl, rfl, rfl⟩, fun b hb => ?_, q⟩
    have e : b = s1.heap.objs.size := by simpa using hb
    subst e
    exact I1.fpOk (Nat.le_refl _) (I1.hok.fresh (Nat.le_refl _))
def seqD (pr : Bool) : D → Option (List D)
  | .tup ds => if pureL ds then some ds else none
  | .lst ds => some ds
  | _ => none
def wSeqD (w : WE) : WL := fun ρ Q => w ρ fun d ρ' => match d with
  | .tup ds => pureL ds = true ∧ Q ds ρ'
  | .lst ds => Q ds ρ'
  | _ => False
theorem iv_seq (h : EV X T m o e w) : IV X T m o tg e (wSeqD w) := by
  obtain ⟨te, pe, ge⟩ := h
  refine ⟨_, pi_seq pe, fun z R σ H W ρ Q RR s hw k => ?_⟩
  refine ge z R σ H W ρ _ _ s hw fun v H1 W1 d ρ1 F p q => ?_
  cases d with
  | tup ds =>
    obtain ⟨hp, q⟩ := q
    obtain ⟨hF, rp⟩ := p.rep.pure (by simpa [D.pure] using hp)
    cases rp with
    | @tup a xs _ _ e1 r =>
      refine ⟨a, rfl, .inr ⟨⟨xs, .of e1⟩, k _ H1 W1 ds ρ1 ⟨p.sr, p.fr, p.calm⟩ (fun i H2 W2 f => ?_) q⟩⟩
      have e2 : H2 a = some (.tup xs) := f.imm _ _ e1 rfl
      refine ⟨fun hi => ⟨xs, .of e2, by rw [r.length]; exact hi⟩, fun d hd => ?_⟩
      obtain ⟨x, B, hx, rx, sx⟩ := r.get hd
      refine ⟨⟨xs, x, .of e2, hx⟩, fun v H3 y => ?_⟩
      obtain ⟨rfl, y⟩ := y
      have := y xs (.of e2)
      rw [hx] at this
      cases this
      exact ⟨Same.refl _, B, rx.keep f (fun a ha => (nomatch sx.subset ha)), (fun a ha => (nomatch sx.subset ha))⟩
  | lst ds =>
    obtain ⟨p1, p2, p3, p4, p5⟩ := p
    cases p4 with
    | @lst a xs _ F e1 r =>
      refine ⟨a, rfl, .inl ⟨⟨xs, .of e1⟩, k _ H1 W1 ds ρ1 ⟨p1, p2, p3⟩ (fun i H2 W2 f => ?_) q⟩⟩
      have nW : ∀ b ∈ a :: F, ¬ wz o W1 b := fun b hb hw => by
        obtain ⟨h1, h2⟩ := hw
        exact ((p5 h1).2 b hb).2 h2
      have e2 : H2 a = some (.lst xs) := f.keep _ _ e1 (nW a List.mem_cons_self)
      refine ⟨fun hi => ⟨xs, .of e2, by rw [r.length]; exact hi⟩, fun d hd => ?_⟩
      obtain ⟨x, B, hx, rx, sx⟩ := r.get hd
      refine ⟨⟨xs, x, .of e2, hx⟩, fun v H3 y => ?_⟩
      obtain ⟨rfl, y⟩ := y
      have := y xs (.of e2)
      rw [hx] at this
      cases this
      refine ⟨Same.refl _, B, rx.keep f fun b hb => nW b (List.mem_cons_of_mem _ (sx.subset hb)), fun b hb hw => ?_⟩
      have hb' : b ∈ a :: F := List.mem_cons_of_mem _ (sx.subset hb)
      rcases f.new b hw with h | h
      · exact nW b hb' h
      · obtain ⟨ob, e3, _⟩ := rx.dom b hb
        rw [h] at e3; cases e3
  | _ => exact q.elim
def rngD (lo : Int) (n : Nat) : List D := (List.range n).map fun (i : Nat) => .int (lo + (i : Int))
theorem jd_range {K : PySem.W.Frag} {H : Hp} {W : Addr → Prop} {lo : Int} {n : Nat} : JD K (Itr lo n) H W (rngD lo n) := by
  intro i H1 W1 f
  have hl : (rngD lo n).length = n := by simp [rngD]
  refine ⟨fun h => by rw [hl] at h; exact h, fun d hd => ?_⟩
  have hi : i < n := by have := (List.getElem?_eq_some_iff.mp hd).1; rwa [hl] at this
  have hd' : d = .int (lo + (i : Int)) := by
    simp only [rngD, List.getElem?_map, List.getElem?_range hi, Option.map_some, Option.some.injEq] at hd
    exact hd.symm
  refine ⟨hi, fun v H2 y => ?_⟩
  obtain ⟨rfl, rfl⟩ := y
  exact ⟨Same.refl _, [], by rw [hd']; exact .int _, fun a m => nomatch m⟩
def wRng1 (wr : WA) : WL := fun ρ Q => wr ρ fun ds ρ' => match ds with
  | [.int j] => -(2 ^ 62) ≤ j ∧ j < 2 ^ 62 ∧ Q (rngD 0 j.toNat) ρ'
  | _ => False
theorem iv_range1 (hm : X.mg "range" = none) (ha : AV X T m o [a] wr) (hg : Gl X "range" := by rfl) (hs : starEach [a] X.env = [(false, eval a X.env)] := by rfl) : IV X T m true tg (.Call (.Name "range" p) [a] [] pos) (wRng1 wr) := by
  obtain ⟨ta, pa, ga⟩ := ha
  refine ⟨_, pi_range1 hg hm pa hs, fun z R σ H W ρ Q RR s hw k => ?_⟩
  refine ga z R σ H W ρ _ _ s hw fun vs H1 W1 ds ρ1 F p q => ?_
  match ds, p, q with
  | [.int j], p, q =>
    obtain ⟨v, rfl, rd⟩ := p.rep.at1
    cases rd
    exact ⟨j, rfl, q.1, q.2.1, k _ H1 W1 _ ρ1 ⟨p.sr, p.fr, p.calm⟩ jd_range q.2.2⟩
def enumD : Nat → List D → List D
  | _, [] => []
  | n, d :: r => .tup [.int (n : Int), d] :: enumD (n + 1) r
theorem enumD_get : ∀ {ds : List D} {n i : Nat}, (enumD n ds)[i]? = ds[i]?.map fun d => .tup [.int ((n + i : Nat) : Int), d]
  | [], _, _ => by simp [enumD]
  | d :: r, n, 0 => by simp [enumD]
  | d :: r, n, i + 1 => by
    simp only [enumD, List.getElem?_cons_succ]
    rw [enumD_get (ds := r) (n := n + 1) (i := i), show n + 1 + i = n + (i + 1) by omega]
theorem enumD_length : ∀ {ds : List D} {n : Nat}, (enumD n ds).length = ds.length
  | [], _ => rfl
  | d :: r, n => by simp [enumD, enumD_length]
def wEnum (wr : WA) : WL := fun ρ Q => wr ρ fun ds ρ' => match ds with
  | [.tup es] => pureL es = true ∧ Q (enumD 0 es) ρ'
  | _ => False
theorem iv_enum {ts : List Expr} {kt : Nat} {pt : Pos} (hm : X.mg "enumerate" = none) (ha : AV X T m o [a] wr) (hg : Gl X "enumerate" := by rfl) (hs : starEach [a] X.env = [(false, eval a X.env)] := by rfl) : IV X T m true (.Tuple ts kt pt) (.Call (.Name "enumerate" p) [a] [] pos) (wEnum wr) := by
  obtain ⟨ta, pa, ga⟩ := ha
  refine ⟨_, pi_enum hg hm pa hs, fun z R σ H W ρ Q RR s hw k => ?_⟩
  refine ga z R σ H W ρ _ _ s hw fun vs H1 W1 ds ρ1 F p q => ?_
  match ds, p, q with
  | [.tup es], p, q =>
    obtain ⟨hp, q⟩ := q
    obtain ⟨v, rfl, rd⟩ := p.rep.at1
    obtain ⟨hF, rd⟩ := rd.pure (by simpa [D.pure] using hp)
    cases rd with
    | @tup a xs _ _ e1 r =>
      refine ⟨a, rfl, ⟨xs, .of e1⟩, k _ H1 W1 _ ρ1 ⟨p.sr, p.fr, p.calm⟩ (fun i H2 W2 f => ?_) q⟩
      have e2 : H2 a = some (.tup xs) := f.imm _ _ e1 rfl
      refine ⟨fun hi => ⟨xs, .of e2, by rw [r.length]; rwa [enumD_length] at hi⟩, fun d hd => ?_⟩
      rw [enumD_get] at hd
      cases hd' : es[i]? with
      | none => rw [hd'] at hd; cases hd
      | some d' =>
        rw [hd'] at hd
        obtain ⟨x, B, hx, rx, sx⟩ := r.get hd'
        refine ⟨⟨xs, x, .of e2, hx⟩, fun v H3 y => ?_⟩
        obtain ⟨x', t, h1, rfl, h3, rfl⟩ := y xs (.of e2)
        rw [hx] at h1
        cases h1
        have hB : B = [] := List.sublist_nil.mp sx
        subst hB
        refine ⟨same_upd h3, [], ?_, fun a m => nomatch m⟩
        cases hd
        rw [Nat.zero_add]
        exact .tup upd_same (.cons (F := []) (G := []) (.int _) (Reps.one ((rx.keep f fun a m => nomatch m).same (same_upd h3))))
end
end PV
set_option Elab.async false
set_option linter.all false
set_option maxRecDepth 100000
set_option maxHeartbeats 4000000
namespace PV
open PySem PySem.Spec L2
structure EndsP where
  nx : Env → Prop
  rt : D → Env → Prop
  bk : Env → Prop := fun _ => False
  ct : Env → Prop := fun _ => False
abbrev WS := EndsP → Env → Prop
structure Lk (K : PySem.W.Frag) (T : Tg) (z : Nat → V) (H : Hp) (W : Addr → Prop) (P : EndsP) (E : Ends) : Prop where
  nx : ∀ R σ' H' W' ρ', SR K T z R H' W' σ' ρ' → FrW H W H' W' → P.nx ρ' → E.nx σ' H'
  bk : ∀ R σ' H' W' ρ', SR K T z R H' W' σ' ρ' → FrW H W H' W' → P.bk ρ' → E.bk σ' H'
  ct : ∀ R σ' H' W' ρ', SR K T z R H' W' σ' ρ' → FrW H W H' W' → P.ct ρ' → E.ct σ' H'
  rt : ∀ R v σ' H' W' ρ' d F, SR K T z R H' W' σ' ρ' → FrW H W H' W' → Rep K H' d v F → F.Nodup → (∀ a ∈ F, ¬ W' a ∧ (W a ∨ H a = none)) → P.rt d ρ' → E.rt v H'
theorem Lk.step {K : PySem.W.Frag} {T : Tg} {z : Nat → V} {H H1 : Hp} {W W1 : Addr → Prop} {P : EndsP} {E : Ends} (l : Lk K T z H W P E) (f : FrW H W H1 W1) : Lk K T z H1 W1 P E where
  nx := fun R σ' H' W' ρ' s g q => l.nx R σ' H' W' ρ' s (f.trans g) q
  bk := fun R σ' H' W' ρ' s g q => l.bk R σ' H' W' ρ' s (f.trans g) q
  ct := fun R σ' H' W' ρ' s g q => l.ct R σ' H' W' ρ' s (f.trans g) q
  rt := fun R v σ' H' W' ρ' d F s g r nd k q => l.rt R v σ' H' W' ρ' d F s (f.trans g) r nd (fun a ha => ⟨(k a ha).1, by
    rcases (k a ha).2 with h | h
    · exact f.new a h
    · exact .inr (f.dom a h)⟩) q
def SV (X : Cx) (T : Tg) (st : Stmt) (w : WS) : Prop :=
  ∃ ts, PS X st ts ∧ ∀ (z : Nat → V) (R : Addr → Prop) (σ : St) (H : Hp) (W : Addr → Prop) (ρ : Env) (P : EndsP) (E : Ends), SR X.K T z R H W σ ρ → w P ρ → Lk X.K T z H W P E → ts E σ H
def SVs (X : Cx) (T : Tg) (st : List Stmt) (w : WS) : Prop :=
  ∃ ts, PSs X st ts ∧ ∀ (z : Nat → V) (R : Addr → Prop) (σ : St) (H : Hp) (W : Addr → Prop) (ρ : Env) (P : EndsP) (E : Ends), SR X.K T z R H W σ ρ → w P ρ → Lk X.K T z H W P E → ts E σ H
section
variable {X : Cx} {T : Tg} {m o m0 m1 m2 m3 o1 o2 : Bool} {e a b : Expr} {w wa wb : WE} {pos p2 p : Pos} {es : List Expr} {wr : WA} {x : Str} {st : Stmt} {rest : List Stmt} {ws wu : WS} {wt : WT}
def wNext : WS := fun P ρ => P.nx ρ
def wSeq (w u : WS) : WS := fun P ρ => w { P with nx := u P } ρ
theorem svs_nil : SVs X T [] wNext := ⟨_, pss_nil, fun z R σ H W ρ P E s hw l => l.nx R σ H W ρ s (FrW.refl H W) hw⟩
theorem svs_one (h : SV X T st ws) : SVs X T [st] ws := by
  obtain ⟨t, pt, g⟩ := h
  exact ⟨_, pss_one pt, g⟩
theorem svs_cons (h : SV X T st ws) (hr : SVs X T rest wu) : SVs X T (st :: rest) (wSeq ws wu) := by
  obtain ⟨t, pt, g⟩ := h
  obtain ⟨u, pu, gu⟩ := hr
  refine ⟨_, pss_cons pt pu, fun z R σ H W ρ P E s hw l => g z R σ H W ρ _ _ s hw ⟨fun R' σ' H' W' ρ' s' f q => gu z R' σ' H' W' ρ' P E s' q (l.step f), l.bk, l.ct, l.rt⟩⟩
def wRet (w : WE) : WS := fun P ρ => w ρ fun d ρ' => P.rt d ρ'
theorem sv_ret (he : EV X T m true e w) : SV X T (.Return (some e) pos) (wRet w) := by
  obtain ⟨te, pe, ge⟩ := he
  exact ⟨_, ps_ret pe, fun z R σ H W ρ P E s hw l => ge z R σ H W ρ _ _ s hw fun v H1 W1 d ρ1 F p q => l.rt R v σ H1 W1 ρ1 d F p.sr p.fr p.rep (p.own rfl).1 (fun a ha => ⟨((p.own rfl).2 a ha).2, .inr ((p.own rfl).2 a ha).1⟩) q⟩
theorem sv_retN : SV X T (.Return none pos) (fun P ρ => P.rt .non ρ) :=
  ⟨_, ps_retN, fun z R σ H W ρ P E s hw l => l.rt R .non σ H W ρ .non [] s (FrW.refl H W) .non List.nodup_nil (fun a m => nomatch m) hw⟩
def wRetS (i : Nat) : WS := fun P ρ => oget (look ρ i) fun d => P.rt d (ρ.set i none)
theorem sv_retS {i : Nat} (ht : T.own i = true := by rfl) (hN : X.N[i]? = some x := by rfl) (hv : Vis X.env.scope x := by first | exact Or.inl rfl | exact Or.inr (Or.inl rfl) | exact Or.inr (Or.inr rfl)) (hd : (x == ("__debug__" : Str)) = false := by decide)
    (hcd : (x == ("__classdict__" : Str)) = false := by decide) : SV X T (.Return (some (.Name x p)) pos) (wRetS i) := by
  refine ⟨_, ps_ret (pe_var hN hv hd hcd), fun z R σ H W ρ P E s hw l => ?_⟩
  obtain ⟨d, hl, q⟩ := oget_some hw
  obtain ⟨fp, s0⟩ := s
  obtain ⟨v, h1, h2⟩ := s0.at_ i d hl
  have key : ∀ j e, look (ρ.set i none) j = some e → j ≠ i ∧ look ρ j = some e := fun j e h => by
    rw [look_set] at h
    split at h
    · cases h
    · refine ⟨fun z => ?_, h⟩
      subst z
      rename_i hn
      exact hn ⟨rfl, look_lt hl⟩
  refine ⟨v, h1, l.rt R v σ H (fun a => W a ∧ a ∉ fp i) (ρ.set i none) d (fp i) ⟨fp, ?_⟩ ?_ h2 (s0.own i d hl ht).1 (fun a ha => ⟨fun h => h.2 ha, .inl ((s0.own i d hl ht).2 a ha)⟩) q⟩
  · refine ⟨by rw [List.length_set]; exact s0.len, fun a h => s0.wd a h.1, fun j e h => s0.at_ j e (key j e h).2, fun j e h t => ⟨(s0.own j e (key j e h).2 t).1, fun a ha => ⟨(s0.own j e (key j e h).2 t).2 a ha, fun ha' => s0.dis j i e d (key j e h).2 hl t ht (key j e h).1 a ha ha'⟩⟩,
      fun j e h t => s0.ro j e (key j e h).2 t, fun a h => s0.wr a h.1, s0.rd, fun j k e e' h h' t t' => s0.dis j k e e' (key j e h).2 (key k e' h').2 t t', s0.fix⟩
  · exact ⟨fun b ob e _ => e, fun b e => e, fun b ob e _ => e, fun b h => .inl h.1⟩
theorem SR0.bind {K : PySem.W.Frag} {z : Nat → V} {R : Addr → Prop} {H : Hp} {W : Addr → Prop} {σ : St} {ρ : Env} {fp : Nat → List Addr} {i : Nat} {d : D} {v : V} {F : List Addr} (s : SR0 K T z R H W σ ρ fp) (hio : i ∉ T.io) (r : Rep K H d v F) (nd : F.Nodup) (nw : ∀ a ∈ F, ¬ W a ∧ ¬ R a) :
    ∃ R', SR K T z R' H (fun a => W a ∨ (T.own i = true ∧ a ∈ F)) (σ.set i (some v)) (ρ.set i (some d)) := by
  refine ⟨fun a => R a ∨ (T.own i = false ∧ a ∈ F), fun j => if j = i then F else fp j, ?_, ?_, ?_, ?_, ?_, ?_, ?_, ?_, ?_⟩
  · rw [List.length_set, List.length_set]; exact s.len
  · intro a ha
    rcases ha with ha | ⟨_, ha⟩
    · exact s.wd a ha
    · exact r.dom a ha
  · intro j e hj
    rw [look_set] at hj
    split at hj
    · rename_i h
      obtain ⟨rfl, hlt⟩ := h
      cases hj
      exact ⟨v, by rw [List.getElem?_set_self (by rw [← s.len]; exact hlt)], by rw [if_pos rfl]; exact r⟩
    · rename_i h
      obtain ⟨u, h1, h2⟩ := s.at_ j e hj
      have hji : j ≠ i := fun z => h ⟨z, by rw [← z]; exact look_lt hj⟩
      exact ⟨u, by rw [List.getElem?_set_ne (Ne.symm hji)]; exact h1, by rw [if_neg hji]; exact h2⟩
  · intro j e hj hto
    by_cases hji : j = i
    · subst hji; simp only [if_pos]; exact ⟨nd, fun a h => .inr ⟨hto, h⟩⟩
    · rw [look_set_ne hji] at hj
      simp only [if_neg hji]
      exact ⟨(s.own j e hj hto).1, fun a h => .inl ((s.own j e hj hto).2 a h)⟩
  · intro j e hj hto
    by_cases hji : j = i
    · subst hji; simp only [if_pos]; exact fun a h => .inr ⟨hto, h⟩
    · rw [look_set_ne hji] at hj
      simp only [if_neg hji]
      exact fun a h => .inl (s.ro j e hj hto a h)
  · intro a ha hr
    rcases ha with ha | ⟨t, ha⟩
    · rcases hr with hr | ⟨_, hr⟩
      · exact s.wr a ha hr
      · exact (nw a hr).1 ha
    · rcases hr with hr | ⟨t', hr⟩
      · exact (nw a ha).2 hr
      · rw [t] at t'; cases t'
  · intro a hr
    rcases hr with hr | ⟨_, hr⟩
    · exact s.rd a hr
    · exact r.dom a hr
  · intro j k e e' hj hk tj tk hne a ha ha'
    by_cases hji : j = i
    · subst hji
      have hkj : k ≠ j := fun z => hne z.symm
      rw [look_set_ne hkj] at hk
      simp only [if_pos, if_neg hkj] at ha ha'
      exact (nw a ha).1 ((s.own k e' hk tk).2 a ha')
    · rw [look_set_ne hji] at hj
      simp only [if_neg hji] at ha
      by_cases hki : k = i
      · subst hki
        simp only [if_pos] at ha'
        exact (nw a ha').1 ((s.own j e hj tj).2 a ha)
      · rw [look_set_ne hki] at hk
        simp only [if_neg hki] at ha'
        exact s.dis j k e e' hj hk tj tk hne a ha ha'
  · intro j hj
    have hji : j ≠ i := fun z => hio (z ▸ hj)
    rw [List.getElem?_set_ne (Ne.symm hji)]
    exact s.fix j hj
def wSet (i : Nat) (w : WE) : WS := fun P ρ => w ρ fun d ρ' => P.nx (ρ'.set i (some d))
theorem frw_more {H H' : Hp} {W W' : Addr → Prop} {G : Addr → Prop} (f : FrW H W H' W') (n : ∀ a, G a → H a = none) : FrW H W H' (fun a => W' a ∨ G a) :=
  ⟨f.keep, f.dom, f.imm, fun b h => h.elim (f.new b) fun h => .inr (n b h)⟩
theorem sv_set {i : Nat} {pos' : Pos} (he : EV X T m true e w) (hN : X.N.Nodup) (hi : X.N[i]? = some x := by rfl) (hio : i ∉ T.io := by decide) (hx : Loc X.env.scope x := by first | exact Or.inl rfl | exact Or.inr rfl) (hs : swapsWith e (some (.Name x pos')) pos.line X.env = pure false := by rfl)
    (hf : X.fn x = true ∨ X.env.scope.names.lookup x = some .local := by first | exact .inl rfl | exact .inr rfl | assumption) : SV X T (.Assign [.Name x pos'] e pos) (wSet i w) := by
  obtain ⟨te, pe, ge⟩ := he
  refine ⟨_, ps_set hN hi hx pe hs hf, fun z R σ H W ρ P E s hw l => ge z R σ H W ρ _ _ s hw fun v H1 W1 d ρ1 F p q => ?_⟩
  obtain ⟨fp, s1⟩ := p.sr
  obtain ⟨nd, nw⟩ := p.own rfl
  obtain ⟨R', s2⟩ := s1.bind (i := i) hio p.rep nd (fun a ha => ⟨(nw a ha).2, s.nr (nw a ha).1⟩)
  exact l.nx R' _ H1 _ _ s2 (frw_more p.fr fun a h => (nw a h.2).1) q
theorem sv_setC {i : Nat} {pos' : Pos} (he : ∃ te, PS X (.Assign [.Name x pos'] e pos) (tAsg te (gName i)) ∧ ∀ (z : Nat → V) (R : Addr → Prop) (σ : St) (H : Hp) (W : Addr → Prop) (ρ : Env) (Q : D → Env → Prop) (Q' : VK), SR X.K T z R H W σ ρ → w ρ Q →
    (∀ v H' W' d ρ' F, Post X.K T z R m true H W σ ρ H' W' ρ' d v F → Q d ρ' → Q' v H') → te σ H Q') (hio : i ∉ T.io := by decide) : SV X T (.Assign [.Name x pos'] e pos) (wSet i w) := by
  obtain ⟨te, pe, ge⟩ := he
  refine ⟨_, pe, fun z R σ H W ρ P E s hw l => ge z R σ H W ρ _ _ s hw fun v H1 W1 d ρ1 F p q => ?_⟩
  obtain ⟨fp, s1⟩ := p.sr
  obtain ⟨nd, nw⟩ := p.own rfl
  obtain ⟨R', s2⟩ := s1.bind (i := i) hio p.rep nd (fun a ha => ⟨(nw a ha).2, s.nr (nw a ha).1⟩)
  exact l.nx R' _ H1 _ _ s2 (frw_more p.fr fun a h => (nw a h.2).1) q
abbrev WG := D → Env → (Env → Prop) → Prop
def GV (X : Cx) (T : Tg) (tg : Expr) (wg : WG) : Prop :=
  ∃ t, PG X tg t ∧ ∀ (z : Nat → V) (R : Addr → Prop) (σ : St) (H : Hp) (W : Addr → Prop) (ρ : Env) (d : D) (v : V) (Q : Env → Prop) (Q' : St → Hp → Prop), SR X.K T z R H W σ ρ → Rep X.K H d v [] → d.pure = true → wg d ρ Q →
    (∀ R' W' σ' ρ', SR X.K T z R' H W' σ' ρ' → FrW H W H W' → Q ρ' → Q' σ' H) → t v σ H Q'
def GVs (X : Cx) (T : Tg) (tgs : List Expr) (wg : List D → Env → (Env → Prop) → Prop) : Prop :=
  ∃ t, PGs X tgs t ∧ ∀ (z : Nat → V) (R : Addr → Prop) (σ : St) (H : Hp) (W : Addr → Prop) (ρ : Env) (ds : List D) (vs : List V) (Q : Env → Prop) (Q' : St → Hp → Prop), SR X.K T z R H W σ ρ → Reps X.K H ds vs [] → pureL ds = true → wg ds ρ Q →
    (∀ R' W' σ' ρ', SR X.K T z R' H W' σ' ρ' → FrW H W H W' → Q ρ' → Q' σ' H) → t vs σ H Q'
def gN (i : Nat) : WG := fun d ρ Q => Q (ρ.set i (some d))
theorem gv_name {i : Nat} (hN : X.N.Nodup) (hi : X.N[i]? = some x := by rfl) (hio : i ∉ T.io := by decide) (hx : Loc X.env.scope x := by first | exact Or.inl rfl | exact Or.inr rfl) (hf : X.fn x = true ∨ X.env.scope.names.lookup x = some .local := by first | exact .inl rfl | exact .inr rfl | assumption) : GV X T (.Name x pos) (gN i) := by
  refine ⟨_, pg_name hN hi hx hf, fun z R σ H W ρ d v Q Q' s r hp hw k => ?_⟩
  obtain ⟨fp, s1⟩ := s
  obtain ⟨R', s2⟩ := s1.bind (i := i) hio r List.nodup_nil (fun a ha => nomatch ha)
  exact k R' _ _ _ s2 (frw_more (FrW.refl H W) fun a h => nomatch h.2) hw
def gNilD : List D → Env → (Env → Prop) → Prop
  | [], ρ, Q => Q ρ
  | _, _, _ => False
def gConsD (wg : WG) (wgs : List D → Env → (Env → Prop) → Prop) : List D → Env → (Env → Prop) → Prop
  | d :: r, ρ, Q => wg d ρ fun ρ' => wgs r ρ' Q
  | _, _, _ => False
theorem Reps.inv {K : PySem.W.Frag} {H : Hp} {d : D} {ds : List D} {vs : List V} {F : List Addr} (r : Reps K H (d :: ds) vs F) : ∃ v us F1 F2, vs = v :: us ∧ Rep K H d v F1 ∧ Reps K H ds us F2 := by
  cases r with
  | cons h r => exact ⟨_, _, _, _, rfl, h, r⟩
theorem gvs_nil : GVs X T [] gNilD := by
  refine ⟨_, pgs_nil, fun z R σ H W ρ ds vs Q Q' s r hp hw k => ?_⟩
  cases ds with
  | nil => cases r; exact ⟨rfl, k R W σ ρ s (FrW.refl H W) hw⟩
  | cons => exact hw.elim
theorem gvs_cons {wg : WG} {wgs : List D → Env → (Env → Prop) → Prop} (h : GV X T e wg) (hr : GVs X T es wgs) (hs : (assignEach (e :: es) X.env).map (·.2) = assign e X.env :: (assignEach es X.env).map (·.2) := by rfl) : GVs X T (e :: es) (gConsD wg wgs) := by
  obtain ⟨t, pt, g⟩ := h
  obtain ⟨u, pu, gu⟩ := hr
  refine ⟨_, pgs_cons pt pu hs, fun z R σ H W ρ ds vs Q Q' s r hp hw k => ?_⟩
  cases ds with
  | nil => exact hw.elim
  | cons d ds =>
    obtain ⟨v, vs, F, G, rfl, r1, r2⟩ := r.inv
    simp only [pureL, Bool.and_eq_true] at hp
    obtain ⟨e1, r1⟩ := r1.pure hp.1
    obtain ⟨e2, r2⟩ := r2.pure hp.2
    refine ⟨v, vs, rfl, g z R σ H W ρ d v _ _ s r1 hp.1 hw fun R' W' σ' ρ' s' f q => ?_⟩
    exact gu z R' σ' H W' ρ' ds vs Q Q' s' r2 hp.2 q fun R2 W2 σ2 ρ2 s2 f2 q2 => k R2 W2 σ2 ρ2 s2 (f.trans f2) q2
def gTupD (n : Nat) (wgs : List D → Env → (Env → Prop) → Prop) : WG := fun d ρ Q => match d with
  | .tup ds => ds.length = n ∧ wgs ds ρ Q
  | _ => False
theorem gv_tup {kt : Nat} {n : Nat} {wgs : List D → Env → (Env → Prop) → Prop} (h : GVs X T es wgs) (hc : X.calm = true := by rfl) (hn : (assignEach es X.env).length = n := by rfl) (hst : (assignEach es X.env).findIdx? (·.1) = none := by rfl) : GV X T (.Tuple es kt pos) (gTupD n wgs) := by
  obtain ⟨t, pt, g⟩ := h
  refine ⟨_, pg_tup hc pt hn hst, fun z R σ H W ρ d v Q Q' s r hp hw k => ?_⟩
  cases d with
  | tup ds =>
    cases r with
    | @tup a xs _ _ e1 r => exact ⟨a, xs, rfl, .of e1, by rw [r.length]; exact hw.1, g z R σ H W ρ ds xs Q Q' s r (by simpa [D.pure] using hp) hw.2 k⟩
  | _ => exact hw.elim
def wAsg (w : WE) (wg : WG) : WS := fun P ρ => w ρ fun d ρ' => d.pure = true ∧ wg d ρ' P.nx
theorem sv_asg {tg : Expr} {wg : WG} (he : EV X T m o e w) (hg : GV X T tg wg) (hs : swapsWithSole [tg] e pos.line X.env = pure false := by rfl) (hw : swappedStores [tg] e X.env = pure none := by rfl)
    (h1 : (assignEach [tg] X.env).map (·.2) = [assign tg X.env] := by rfl) : SV X T (.Assign [tg] e pos) (wAsg w wg) := by
  obtain ⟨te, pe, ge⟩ := he
  obtain ⟨t, pt, g⟩ := hg
  refine ⟨_, ps_asg pe pt hs hw h1, fun z R σ H W ρ P E s hw l => ge z R σ H W ρ _ _ s hw fun v H1 W1 d ρ1 F p ⟨hp, q⟩ => ?_⟩
  obtain ⟨_, r⟩ := p.rep.pure hp
  exact g z R σ H1 W1 ρ1 d v _ _ p.sr r hp q fun R' W' σ' ρ' s' f q' => l.nx R' σ' H1 W' ρ' s' (p.fr.trans f) q'
def dSet : D → D → D → (D → Prop) → Prop
  | .lst xs, .int j, d, k => oget (ixN xs.length j) fun n => k (.lst (xs.set n d))
  | .dik kvs, .int j, d, k => kvs.length < sizeLine ∧ k (.dik (putD kvs (.inl j) d))
  | .dik kvs, .str j, d, k => kvs.length < sizeLine ∧ k (.dik (putD kvs (.inr j) d))
  | .dit kvs, .tup l, d, k => kvs.length < sizeLine ∧ oget (keysOf l) fun ks => k (.dit (putD kvs ks d))
  | _, _, _, _ => False
theorem set_dict (hu : X.A.units + 1 < cLine) : PSet X (fun o i v H Q => ∃ a H', o = .ref a ∧ DPut H a i v H' ∧ Q H') := by
  intro pins s σ H o i v ov iv u Q I ro ri rv h
  obtain ⟨a, H', rfl, g, q⟩ := h
  cases ro
  exact d_setItem hu I g ri rv fun s' I' => ⟨H', I', q⟩
theorem PSet.or {t u : TSet} (h : PSet X t) (h' : PSet X u) : PSet X (fun o i v H Q => t o i v H Q ∨ u o i v H Q) := by
  intro pins s σ H o i v ov iv u Q I ro ri rv q
  rcases q with q | q
  · exact h pins s σ H o i v ov iv u Q I ro ri rv q
  · exact h' pins s σ H o i v ov iv u Q I ro ri rv q
def wSetIx (i : Nat) (wv wi : WE) : WS := fun P ρ => wv ρ fun d ρ1 => d.pure = true ∧ (look ρ1 i).isSome = true ∧ wi ρ1 fun c ρ2 => oget (look ρ2 i) fun s => dSet s c d fun s' => P.nx (ρ2.set i (some s'))
theorem sv_setIx {i : Nat} {v ix : Expr} {wv wi : WE} {px ps' : Pos} (hu : X.A.units + 1 < cLine) (hv : EV X T m1 o1 v wv) (hi : EV X T m2 o2 ix wi) (ht : T.own i = true := by rfl) (hN : X.N[i]? = some x := by rfl)
    (hvis : Vis X.env.scope x := by first | exact Or.inl rfl | exact Or.inr (Or.inl rfl) | exact Or.inr (Or.inr rfl)) (hd : (x == ("__debug__" : Str)) = false := by decide) (hcd : (x == ("__classdict__" : Str)) = false := by decide)
    (ha : ∀ v, assign (.Subscript (.Name x px) ix ps') X.env v = (do
      let ov ← holding [v] (eval (.Name x px) X.env)
      let iv ← holding [v, ov] (eval ix X.env)
      standAt ps'
      holding [v, ov, iv] (setItem ov iv v)
      release [v, ov, iv] []) := by intro _; rfl) (hs : swapsWithSole [.Subscript (.Name x px) ix ps'] v pos.line X.env = pure false := by rfl) (hw : swappedStores [.Subscript (.Name x px) ix ps'] v X.env = pure none := by rfl)
    (h1 : (assignEach [.Subscript (.Name x px) ix ps'] X.env).map (·.2) = [assign (.Subscript (.Name x px) ix ps') X.env] := by rfl) : SV X T (.Assign [.Subscript (.Name x px) ix ps'] v pos) (wSetIx i wv wi) := by
  obtain ⟨tv, pv, gv⟩ := hv
  obtain ⟨ti, pi, gi⟩ := hi
  refine ⟨_, ps_asg pv (pg_sub (pe_var hN hvis hd hcd) pi (PSet.or set_list (set_dict hu)) ha) hs hw h1, fun z R σ H W ρ P E s hw l => ?_⟩
  refine gv z R σ H W ρ _ _ s hw fun v1 H1 W1 d ρ1 F1 p ⟨hp, hso, q⟩ => ?_
  obtain ⟨-, rv⟩ := p.rep.pure hp
  obtain ⟨d0, hl0⟩ := Option.isSome_iff_exists.mp hso
  obtain ⟨fp0, s0⟩ := id p.sr
  obtain ⟨u, hu', _⟩ := s0.at_ i d0 hl0
  refine ⟨u, hu', gi z R σ H1 W1 ρ1 _ _ p.sr q fun v2 H2 W2 c ρ2 F2 p2 q2 => ?_⟩
  obtain ⟨d1, hl, q2⟩ := oget_some q2
  obtain ⟨fp, s2⟩ := id p2.sr
  obtain ⟨u', hu2, ru⟩ := s2.at_ i d1 hl
  have : u' = u := by rw [hu'] at hu2; cases hu2; rfl
  subst this
  have rv2 : Rep X.K H2 d v1 [] := rv.keep p2.fr fun a m => nomatch m
  obtain ⟨nd, sw⟩ := s2.own i d1 hl ht
  have fin : ∀ (lad : Addr) (ob : HO) (d' : D) (F' : List Addr), lad ∈ fp i → imm ob = false → Rep X.K (upd H2 lad ob) d' u' F' → F'.Nodup → (∀ a ∈ F', a ∈ fp i) → P.nx (ρ2.set i (some d')) → E.nx σ (upd H2 lad ob) := fun lad ob d' F' hm him r' nd' sub hq => by
    have hW := sw lad hm
    exact l.nx R σ _ _ _ (s2.write hl ht hu2 hm upd_keep ⟨ob, upd_same, him⟩ r' nd' fun a ha => .inl (sub a ha)) ((p.fr.trans p2.fr).write hW (s2.wd lad hW) upd_keep ⟨ob, upd_same, him⟩ fun a ha => .inl (sw a (sub a ha))) hq
  have nilnot : ∀ a : Addr, a ∉ ([] : List Addr) := fun a h => nomatch h
  generalize hF : fp i = F at *
  cases ru with
  | @lst a xs ds G e r =>
    cases c with
    | int j =>
      obtain ⟨n, hn, hq⟩ := oget_some q2
      have rc := rep_int p2.rep
      subst rc
      have hlt := (ixN_seq hn).2.1
      obtain ⟨dn, hdn⟩ : ∃ dn, ds[n]? = some dn := ⟨ds[n], List.getElem?_eq_getElem hlt⟩
      obtain ⟨y, A, B, C, hy, hG, rB, rA, rC⟩ := r.split hdn
      obtain ⟨na, ndG⟩ := List.nodup_cons.mp nd
      have sub := sub3 hG
      have nAC : a ∉ A ++ C := fun h => na (sub.subset h)
      have hxl : n < xs.length := by rw [r.length]; exact hlt
      refine .inl ⟨a, xs, j, n, rfl, rfl, e, by rw [r.length]; exact hn, ?_⟩
      refine fin a _ _ (a :: (A ++ C)) List.mem_cons_self rfl (.lst upd_same ?_) (List.nodup_cons.mpr ⟨nAC, ndG.sublist sub⟩) (fun b hb => ?_) hq
      · rw [take_set_drop hlt, take_set_drop hxl]
        have := (rA.upd (ob' := .lst (xs.take n ++ v1 :: xs.drop (n + 1))) e rfl (fun h => nAC (List.mem_append.mpr (.inl h)))).append (.cons (rv2.upd e rfl (nilnot a)) (rC.upd e rfl fun h => nAC (List.mem_append.mpr (.inr h))))
        simpa using this
      · rcases List.mem_cons.mp hb with rfl | hb
        · exact List.mem_cons_self
        · exact List.mem_cons_of_mem _ (sub.subset hb)
    | _ => exact (show False from q2).elim
  | @dik a kvs ds G e r =>
    obtain ⟨na, ndG⟩ := List.nodup_cons.mp nd
    have go : ∀ key : Key, v2 = kV key → ds.length < sizeLine → P.nx (ρ2.set i (some (.dik (putD ds key d)))) → rSetL (.ref a) v2 v1 H2 (fun H3 => E.nx σ H3) ∨ ∃ a' H', V.ref a = .ref a' ∧ DPut H2 a' v2 v1 H' ∧ E.nx σ H' := fun key ek hz hq => by
      obtain ⟨G', rp, sub⟩ := (r.upd (ob' := .dK (putK kvs key v1)) e rfl na).put (k := key) (rv2.upd e rfl (nilnot a))
      subst ek
      refine .inr ⟨a, _, rfl, DPut.k (k := key) e (by rw [r.length]; exact hz), ?_⟩
      refine fin a _ _ (a :: G') List.mem_cons_self rfl (.dik upd_same rp) (List.nodup_cons.mpr ⟨fun h => na (sub.subset h), ndG.sublist sub⟩) (fun b hb => ?_) hq
      rcases List.mem_cons.mp hb with rfl | hb
      · exact List.mem_cons_self
      · exact List.mem_cons_of_mem _ (sub.subset hb)
    cases c with
    | int j => exact go (.inl j) (rep_int p2.rep) q2.1 q2.2
    | str j => exact go (.inr j) (by cases p2.rep; rfl) q2.1 q2.2
    | _ => exact (show False from q2).elim
  | @dit a kvs ds G e r =>
    obtain ⟨na, ndG⟩ := List.nodup_cons.mp nd
    cases c with
    | tup l' =>
      obtain ⟨hz, q2⟩ := q2
      obtain ⟨ks, hk, hq⟩ := oget_some q2
      cases hrep : p2.rep with
      | @tup b ys _ _ e2 r2 =>
        have hx := r2.keys hk
        subst hx
        obtain ⟨G', rp, sub⟩ := (r.upd (ob' := .dT (putK kvs ks v1)) e rfl na).put (k := ks) (rv2.upd e rfl (nilnot a))
        refine .inr ⟨a, _, rfl, DPut.t (k := ks) e e2 (by rw [r.length]; exact hz), ?_⟩
        refine fin a _ _ (a :: G') List.mem_cons_self rfl (.dit upd_same rp) (List.nodup_cons.mpr ⟨fun h => na (sub.subset h), ndG.sublist sub⟩) (fun b hb => ?_) hq
        rcases List.mem_cons.mp hb with rfl | hb
        · exact List.mem_cons_self
        · exact List.mem_cons_of_mem _ (sub.subset hb)
    | _ => exact (show False from q2).elim
  | _ => exact (show False from by cases c <;> exact q2).elim
def wIf (wt : WT) (w u : WS) : WS := fun P ρ => wt ρ fun b ρ' => if b = true then w P ρ' else u P ρ'
theorem sv_if {c : Expr} {sa sb : List Stmt} (hc : TV X T m c wt) (ha : SVs X T sa ws) (hb : SVs X T sb wu) : SV X T (.If c sa sb pos) (wIf wt ws wu) := by
  obtain ⟨tc, pc, gc⟩ := hc
  obtain ⟨ta, pa, ga⟩ := ha
  obtain ⟨tb, pb, gb⟩ := hb
  refine ⟨_, ps_if pc pa pb, fun z R σ H W ρ P E s hw l => gc z R σ H W ρ _ _ s hw fun b H1 W1 ρ1 p q => ?_⟩
  cases b with
  | true => exact ga z R σ H1 W1 ρ1 P E p.sr q (l.step p.fr)
  | false => exact gb z R σ H1 W1 ρ1 P E p.sr q (l.step p.fr)
def wFor (wl : WL) (wg : WG) (wb : WS) : WS := fun P ρ => wl ρ fun ds ρ1 => pureL ds = true ∧ ∃ I : Nat → Env → Prop, I 0 ρ1 ∧
  (∀ i d ρ, ds[i]? = some d → I i ρ → wg d ρ fun ρ' => wb { P with nx := I (i + 1), ct := I (i + 1), bk := P.nx } ρ') ∧ ∀ ρ, I ds.length ρ → P.nx ρ
theorem wz_true (W : Addr → Prop) : wz true W = W := by funext a; simp [wz]
theorem sv_for {tg iter : Expr} {body : List Stmt} {wl : WL} {wg : WG} (hp : PassesOwn (model X.prog X.w) X.A X.env X.xe) (hi : IV X T m true tg iter wl) (hg : GV X T tg wg) (hb : SVs X T body ws) (hc : X.calm = true := by rfl)
    (hs : ∀ x, foldedSetIterable iter X.env x = pure x := by intro _; rfl) : SV X T (.For tg iter body [] pos) (wFor wl wg ws) := by
  obtain ⟨ti, pi, gi⟩ := hi
  obtain ⟨tt, pt, gt⟩ := hg
  obtain ⟨tb, pb, gb⟩ := hb
  refine ⟨_, ps_for hp hc pi pt pb hs, fun z R σ H W ρ P E s hw l => gi z R σ H W ρ _ _ s hw fun J H1 W1 ds ρ1 p jd q => ?_⟩
  rw [wz_true] at jd
  obtain ⟨hpu, I, h0, hI, hd⟩ := q
  refine ⟨fun i n σ' H' => n = ds.length - i ∧ i ≤ ds.length ∧ ∃ R' W' ρ', SR X.K T z R' H' W' σ' ρ' ∧ FrW H1 W1 H' W' ∧ I i ρ', ⟨ds.length, by simp, Nat.zero_le _, R, W1, ρ1, p.sr, FrW.refl _ _, h0⟩, ?_⟩
  rintro i n σ2 H2 ⟨rfl, hi, R2, W2, ρ2, s2, f2, i2⟩
  obtain ⟨j1, j2⟩ := jd i H2 W2 f2
  by_cases hlt : i < ds.length
  · have hdi : ds[i]? = some ds[i] := List.getElem?_eq_getElem hlt
    obtain ⟨hgo, hy⟩ := j2 _ hdi
    have hpd : (ds[i]).pure = true := pureL_iff.mp hpu _ (List.getElem_mem hlt)
    refine .inr ⟨hgo, fun σ' H' => i + 1 ≤ ds.length ∧ ∃ R' W' ρ', SR X.K T z R' H' W' σ' ρ' ∧ FrW H1 W1 H' W' ∧ I (i + 1) ρ', fun σ' H' ⟨h1, h2⟩ => ⟨ds.length - (i + 1), by omega, rfl, h1, h2⟩, fun v H3 yl => ?_⟩
    obtain ⟨sm, F, rv, _⟩ := hy v H3 yl
    obtain ⟨-, rv⟩ := rv.pure hpd
    have f3 : FrW H1 W1 H3 W2 := f2.trans (FrW.same W2 sm)
    refine gt z R2 σ2 H3 W2 ρ2 _ v _ _ (s2.same sm) rv hpd (hI i _ ρ2 hdi i2) fun R4 W4 σ4 ρ4 s4 f4 q4 => ?_
    refine gb z R4 σ4 H3 W4 ρ4 _ _ s4 q4 ⟨?_, ?_, ?_, ?_⟩
    · exact fun R' σ' H' W' ρ' s' f' h => ⟨hlt, R', W', ρ', s', (f3.trans f4).trans f', h⟩
    · exact fun R' σ' H' W' ρ' s' f' h => l.nx R' σ' H' W' ρ' s' (((p.fr.trans f3).trans f4).trans f') h
    · exact fun R' σ' H' W' ρ' s' f' h => ⟨hlt, R', W', ρ', s', (f3.trans f4).trans f', h⟩
    · exact (((l.step p.fr).step f3).step f4).rt
  · have e : i = ds.length := by omega
    subst e
    exact .inl ⟨j1 (Nat.le_refl _), l.nx R2 σ2 H2 W2 ρ2 s2 (p.fr.trans f2) (hd ρ2 i2)⟩
end
end PV
set_option Elab.async false
set_option linter.all false
set_option maxRecDepth 100000
set_option maxHeartbeats 4000000
namespace PV
open PySem PySem.Spec L2
open PyProof.Rows (envOfC)
def TR : Tg := ⟨fun _ => false, []⟩
def Any (H : Hp) : Addr → Prop := fun a => ∃ ob, H a = some ob ∧ imm ob = false
theorem SR.readonly {K : PySem.W.Frag} {T : Tg} {z : Nat → V} {H : Hp} {σ : St} {ρ : Env} (hio : T.io = []) (hlen : ρ.length = σ.length) (h : ∀ i d, look ρ i = some d → T.own i = false ∧ ∃ v F, σ[i]? = some (some v) ∧ Rep K H d v F) :
    SR K T z (Any H) H (fun _ => False) σ ρ := by
  have ch : ∀ i, ∃ F, ∀ d, look ρ i = some d → ∃ v, σ[i]? = some (some v) ∧ Rep K H d v F := fun i => by
    cases hl : look ρ i with
    | none => exact ⟨[], fun d e => nomatch e⟩
    | some d =>
      obtain ⟨_, v, F, h1, h2⟩ := h i d hl
      exact ⟨F, fun d' e => by cases e; exact ⟨v, h1, h2⟩⟩
  refine ⟨fun i => Classical.choose (ch i), hlen, fun a h => h.elim, fun i d hl => Classical.choose_spec (ch i) d hl, fun i d hl ht => ?_, fun i d hl ht a ha => ?_, fun a h => h.elim, fun a h => h, fun i j d e hl hl' ht => ?_, fun i hi => ?_⟩
  · rw [(h i d hl).1] at ht; cases ht
  · obtain ⟨v, _, r⟩ := Classical.choose_spec (ch i) d hl
    exact r.dom a ha
  · rw [(h i d hl).1] at ht; cases ht
  · rw [hio] at hi; cases hi
theorem look_start : ∀ {ds : List D} {n i : Nat}, look (ds.map some ++ List.replicate n none) i = ds[i]?
  | [], 0, i => by simp [look]
  | [], n + 1, 0 => by simp [look, List.replicate_succ]
  | [], n + 1, i + 1 => by
    have := look_start (ds := []) (n := n) (i := i)
    simpa [look, List.replicate_succ] using this
  | d :: ds, n, 0 => by simp [look]
  | d :: ds, n, i + 1 => by
    have := look_start (ds := ds) (n := n) (i := i)
    simpa [look] using this
theorem start_get {N : List Str} {vs : List V} {i : Nat} {v : V} (h : vs[i]? = some v) : (L2.start N vs)[i]? = some (some v) := by
  have hi := (List.getElem?_eq_some_iff.mp h).1
  unfold L2.start
  rw [List.getElem?_append_left (by simpa using hi), List.getElem?_map, h]
  rfl
section
variable {P : Program} {w : World} {K : PySem.W.Frag} {mg : Str → Option Value} {base : Heap} {x qual : Str} {st : Stmt} {f : Addr} {fd : FuncData} {N ps : List Str} {k : Nat} {T : Tg} {ww : WS}
def env0 (N : List Str) (ds : List D) : Env := ds.map some ++ List.replicate (N.length - ds.length) none
theorem fn_ro {g : GA} (F : Fun K x qual st f fd) (S : FnScope N ps (defScope st)) (hio : T.io = []) (hown : ∀ i, i < ps.length → T.own i = false) (hg : ∀ ds kk, g ds kk → ds.length = ps.length)
    (hb : ∀ (cdv : Value) (A : Around) (outer : List PySem.Env) (s : Shared) (H : Hp) (E : XK), Room k (A.deeper (envOfC qual (defScope st) s.heap.objs.size f cdv)) → SVs (cxOf CX0 P w K mg base N qual (defScope st) f cdv A outer s H E).nox T (defBody st) ww)
    (hr : ∀ ds kk, g ds kk → ww { nx := fun _ => kk .non, rt := fun d _ => kk d } (env0 N ds)) : FnOk P w K mg base CX0 (k + 1) f fd ps (spR K g) := by
  refine F.ok S (fun vs H Q E h => ?_) (fun cdv A outer s H vs Q E hroom h => ?_)
  · obtain ⟨ds, Fp, kk, rep, hgk, _⟩ := h
    rw [rep.length]; exact hg ds kk hgk
  · obtain ⟨ds, Fp, kk, rep, hgk, q⟩ := h
    obtain ⟨ts, pts, gts⟩ := hb cdv A outer s H E hroom
    have hl := rep.length
    have hds := hg ds kk hgk
    refine ⟨ts, pts, gts (fun _ => .non) (Any H) (L2.start N vs) H (fun _ => False) (env0 N ds) _ _ (SR.readonly hio ?_ fun i d hli => ?_) (hr ds kk hgk) ⟨?_, ?_, ?_, ?_⟩⟩
    · unfold env0 L2.start; simp [hl]
    · unfold env0 at hli
      rw [look_start] at hli
      obtain ⟨v, B, h1, h2, _⟩ := rep.get hli
      exact ⟨hown i (by rw [← hds]; exact (List.getElem?_eq_some_iff.mp hli).1), v, B, start_get h1, h2⟩
    · intro R' σ' H' W' ρ' s' fr hk
      have sm : Same H H' := fun b o e => fr.keep b o e (fun z => z)
      exact q .non H' .non [] ⟨sm, .non, List.nodup_nil, fun _ m => nomatch m⟩ hk
    · exact fun R' σ' H' W' ρ' s' fr hk => hk.elim
    · exact fun R' σ' H' W' ρ' s' fr hk => hk.elim
    · intro R' v σ' H' W' ρ' d F' s' fr r nd nw hk
      have sm : Same H H' := fun b o e => fr.keep b o e (fun z => z)
      exact q v H' d F' ⟨sm, r, nd, fun a ha => (nw a ha).2.resolve_left id⟩ hk
theorem fn_io {p : Nat} {g : GI} (F : Fun K x qual st f fd) (S : FnScope N ps (defScope st)) (hio : T.io = [p]) (hown : T.own p = true) (hg : ∀ ds kk, g ds kk → ds.length = ps.length ∧ ∃ d0, ds[p]? = some d0 ∧ flatD d0 = true)
    (hb : ∀ (cdv : Value) (A : Around) (outer : List PySem.Env) (s : Shared) (H : Hp) (E : XK), Room k (A.deeper (envOfC qual (defScope st) s.heap.objs.size f cdv)) → SVs (cxOf CX0 P w K mg base N qual (defScope st) f cdv A outer s H E).nox T (defBody st) ww)
    (hr : ∀ ds kk, g ds kk → ww { nx := fun ρ => oget (look ρ p) fun d' => flatD d' = true ∧ kk .non d', rt := fun d ρ => oget (look ρ p) fun d' => flatD d' = true ∧ kk d d' } (env0 N ds)) : FnOk P w K mg base CX0 (k + 1) f fd ps (spI K p g) := by
  refine F.ok S (fun vs H Q E h => ?_) (fun cdv A outer s H vs Q E hroom h => ?_)
  · obtain ⟨ds, a, kk, rep, hp, hgk, _⟩ := h
    rw [rep.length]; exact (hg ds kk hgk).1
  · obtain ⟨ds, a, kk, rep, hp, hgk, q⟩ := h
    obtain ⟨ts, pts, gts⟩ := hb cdv A outer s H E hroom
    have hl := rep.length
    obtain ⟨hds, d0, hd0, hf0⟩ := hg ds kk hgk
    obtain ⟨v0, A', B, C, h1, h2, r0, rA, rC⟩ := rep.split hd0
    rw [hp] at h1; cases h1
    obtain ⟨a', e1, e2⟩ := r0.flat1 hf0
    cases e1
    subst e2
    have hA : A' = [] := by
      cases A' with
      | nil => rfl
      | cons y A' => simp at h2
    subst hA
    have hC : C = [] := by
      cases C with
      | nil => rfl
      | cons y C => simp at h2
    subst hC
    have oth : ∀ i d, i ≠ p → ds[i]? = some d → ∃ v, vs[i]? = some v ∧ Rep K H d v [] := fun i d hne hd => by
      rcases Nat.lt_or_gt_of_ne hne with h | h
      · obtain ⟨v, B, h1, h2, h3⟩ := rA.get (i := i) (by rw [List.getElem?_take_of_lt h]; exact hd)
        rw [List.getElem?_take_of_lt h] at h1
        have := List.sublist_nil.mp h3
        subst this
        exact ⟨v, h1, h2⟩
      · obtain ⟨v, B, h1, h2, h3⟩ := rC.get (i := i - (p + 1)) (by rw [List.getElem?_drop, show p + 1 + (i - (p + 1)) = i by omega]; exact hd)
        rw [List.getElem?_drop, show p + 1 + (i - (p + 1)) = i by omega] at h1
        have := List.sublist_nil.mp h3
        subst this
        exact ⟨v, h1, h2⟩
    obtain ⟨oa, ea, ia⟩ := r0.dom a (List.mem_singleton.mpr rfl)
    have fin : ∀ R' v σ' H' W' ρ' d F', SR K T (fun _ => .ref a) R' H' W' σ' ρ' → FrW H (fun b => b = a) H' W' → Rep K H' d v F' → F'.Nodup → (∀ b ∈ F', ¬ W' b ∧ (b = a ∨ H b = none)) → (oget (look ρ' p) fun d' => flatD d' = true ∧ kk d d') → Q v H' := fun R' v σ' H' W' ρ' d F' s' fr r nd nw hk => by
      obtain ⟨d', hl', hf', hk⟩ := oget_some hk
      obtain ⟨fp, s0⟩ := s'
      obtain ⟨u, hu, ru⟩ := s0.at_ p d' hl'
      have hfx := s0.fix p (by rw [hio]; exact List.mem_singleton.mpr rfl)
      rw [hu] at hfx
      cases hfx
      obtain ⟨a'', e1, e2⟩ := ru.flat1 hf'
      cases e1
      rw [e2] at ru
      have hWa : W' a := (s0.own p d' hl' hown).2 a (by rw [e2]; exact List.mem_singleton.mpr rfl)
      refine q v H' d d' F' ru r nd (fun b hb => ?_) (fun b o e hne => fr.keep b o e hne) hk
      rcases (nw b hb).2 with h | h
      · exact absurd hWa (by rw [← h]; exact (nw b hb).1)
      · exact h
    refine ⟨ts, pts, gts (fun _ => .ref a) (fun b => b ≠ a ∧ Any H b) (L2.start N vs) H (fun b => b = a) (env0 N ds) _ _ ⟨fun i => if i = p then [a] else [], ?_, ?_, ?_, ?_, ?_, ?_, ?_, ?_, ?_⟩ (hr ds kk hgk) ⟨?_, ?_, ?_, ?_⟩⟩
    · unfold env0 L2.start; simp [hl]
    · rintro b rfl; exact ⟨oa, ea, ia⟩
    · intro i d hli
      unfold env0 at hli
      rw [look_start] at hli
      by_cases hip : i = p
      · subst hip
        rw [hd0] at hli; cases hli
        exact ⟨.ref a, start_get hp, by rw [if_pos rfl]; exact r0⟩
      · obtain ⟨v, h1, h2⟩ := oth i d hip hli
        exact ⟨v, start_get h1, by rw [if_neg hip]; exact h2⟩
    · intro i d _ _
      by_cases hip : i = p
      · rw [if_pos hip]; exact ⟨by simp, fun b hb => List.mem_singleton.mp hb⟩
      · rw [if_neg hip]; exact ⟨by simp, fun b hb => nomatch hb⟩
    · intro i d _ ht b hb
      have hip : i ≠ p := fun z => by subst z; rw [hown] at ht; cases ht
      rw [if_neg hip] at hb; cases hb
    · rintro b rfl ⟨h, _⟩; exact h rfl
    · exact fun b h => h.2
    · intro i j d e _ _ _ _ hne b hb hb'
      by_cases hip : i = p
      · have hjp : j ≠ p := fun z => hne (hip.trans z.symm)
        rw [if_neg hjp] at hb'; cases hb'
      · rw [if_neg hip] at hb; cases hb
    · intro i hi
      rw [hio] at hi
      rw [List.mem_singleton.mp hi]
      exact start_get hp
    · exact fun R' σ' H' W' ρ' s' fr hk => fin R' .non σ' H' W' ρ' .non [] s' fr .non List.nodup_nil (fun b hb => nomatch hb) hk
    · exact fun R' σ' H' W' ρ' s' fr hk => hk.elim
    · exact fun R' σ' H' W' ρ' s' fr hk => hk.elim
    · exact fun R' v σ' H' W' ρ' d F' s' fr r nd nw hk => fin R' v σ' H' W' ρ' d F' s' fr r nd nw hk
end
section
variable {X : Cx} {T : Tg} {m o m0 m1 m2 m3 o1 o2 : Bool} {e a b : Expr} {w wa wb we : WE} {pos p2 p : Pos} {es : List Expr} {wr : WA} {x : Str} {wt : WT}
def CV (X : Cx) (ifs : List Expr) (w : WT) : Prop :=
  ∃ tt, PIfs X ifs tt ∧ ∀ (z : Nat → V) (R : Addr → Prop) (σ : St) (H : Hp) (W : Addr → Prop) (ρ : Env) (Q : Bool → Env → Prop) (Q' : Bool → Hp → Prop), SR X.K TR z R H W σ ρ → w ρ Q →
    (∀ b H' W' ρ', PostT X.K TR z R false H W σ ρ H' W' ρ' → Q b ρ' → Q' b H') → tt σ H Q'
def wAll : WT := fun ρ Q => Q true ρ
theorem cv_nil : CV X [] wAll := ⟨_, pifs_nil, fun z R σ H W ρ Q Q' s hw k => k true H W ρ ⟨s, FrW.refl H W, fun _ => ⟨Same.refl H, rfl, rfl⟩⟩ hw⟩
theorem cv_one {c : Expr} (h : TV X TR false c wt) : CV X [c] wt := by
  obtain ⟨tt, pt, g⟩ := h
  exact ⟨_, pifs_one pt, g⟩
def blkE (ρ : Env) (d : D) (ix : List Nat) : Env := some d :: ix.map (look ρ)
theorem look_map {f : Nat → Option D} : ∀ {ix : List Nat} {j : Nat}, look (ix.map f) j = ix[j]?.bind f
  | [], _ => by simp [look]
  | i :: r, 0 => by simp [look]
  | i :: r, j + 1 => by simpa [look] using look_map (f := f) (ix := r) (j := j)
def wComp (wl : WL) (wt : WT) (we : WE) (ix : List Nat) : WE := fun ρ Q => wl ρ fun ds ρ1 => ∃ I : Nat → List D → Prop, I 0 [] ∧
  (∀ i d ys, ds[i]? = some d → I i ys → ys.length < sizeLine ∧ wt (blkE ρ1 d ix) fun b _ => if b = true then we (blkE ρ1 d ix) (fun y _ => I (i + 1) (ys ++ [y])) else I (i + 1) ys) ∧
  ∀ ys, I ds.length ys → ys.length ≤ sizeLine ∧ Q (.lst ys) ρ1
def CompOk (X : Cx) (T : Tg) (m : Bool) (elt iter : Expr) (x : Str) (px : Pos) (scope : Scope) (ifs : List Expr) (ix : List Nat) (w : WE) : Prop :=
  ∃ (wi : TI) (tt : TT) (te : TE), PI X (.Name x px) iter wi ∧ (∀ cl C s₀ H₀ fp, PIfs (cxBlk X scope cl C (bN X.N x ix) s₀ H₀ fp) ifs tt) ∧ (∀ cl C s₀ H₀ fp, PE (cxBlk X scope cl C (bN X.N x ix) s₀ H₀ fp) elt te) ∧
    ∀ (z : Nat → V) (R : Addr → Prop) (σ : St) (H : Hp) (W : Addr → Prop) (ρ : Env) (Q : D → Env → Prop) (Q' : VK), SR X.K T z R H W σ ρ → w ρ Q →
      (∀ v H' W' d ρ' F, Post X.K T z R m true H W σ ρ H' W' ρ' d v F → Q d ρ' → Q' v H') → tComp wi tt te ix σ H Q'
theorem comp_ok {elt iter : Expr} {px : Pos} {scope : Scope} {ifs : List Expr} {wl : WL} {pr : Bool} (ix : List Nat) (hi : IV X T m pr (.Name x px) iter wl)
    (ht : ∀ cl C s₀ H₀ fp, CV (cxBlk X scope cl C (bN X.N x ix) s₀ H₀ fp) ifs wt) (he : ∀ cl C s₀ H₀ fp, EV (cxBlk X scope cl C (bN X.N x ix) s₀ H₀ fp) TR false true elt we) :
    CompOk X T m elt iter x px scope ifs ix (wComp wl wt we ix) := by
  obtain ⟨wi, pi, gi⟩ := hi
  refine ⟨wi, fun σ H Q => ∀ cl C s₀ H₀ fp, Classical.choose (ht cl C s₀ H₀ fp) σ H Q, fun σ H Q => ∀ cl C s₀ H₀ fp, Classical.choose (he cl C s₀ H₀ fp) σ H Q, pi,
    fun cl C s₀ H₀ fp pins s σ H Q I h => (Classical.choose_spec (ht cl C s₀ H₀ fp)).1 pins s σ H Q I (h cl C s₀ H₀ fp), fun cl C s₀ H₀ fp pins s σ H Q I h => (Classical.choose_spec (he cl C s₀ H₀ fp)).1 pins s σ H Q I (h cl C s₀ H₀ fp), ?_⟩
  intro z R σ H W ρ Q Q' s hw k
  refine gi z R σ H W ρ _ _ s hw fun J H1 W1 ds ρ1 p jd q => ?_
  obtain ⟨I, h0, hI, hd⟩ := q
  refine ⟨fun i n ys H2 => n = ds.length - i ∧ i ≤ ds.length ∧ Same H1 H2 ∧ ∃ es F, Reps X.K H2 es ys F ∧ F.Nodup ∧ (∀ a ∈ F, H1 a = none) ∧ I i es, ds.length, ⟨by simp, Nat.zero_le _, Same.refl _, [], [], .nil, List.nodup_nil, (fun a m => (nomatch m)), h0⟩, ?_⟩
  rintro i n ys H2 ⟨rfl, hi, sm, es, F, re, nd, nw, i2⟩
  obtain ⟨j1, j2⟩ := jd i H2 (wz pr W1) (FrW.same _ sm)
  by_cases hlt : i < ds.length
  · have hdi : ds[i]? = some ds[i] := List.getElem?_eq_getElem hlt
    obtain ⟨hgo, hy⟩ := j2 _ hdi
    obtain ⟨hz, q1⟩ := hI i _ es hdi i2
    refine .inr ⟨hgo, by rw [re.length]; exact hz, fun v H3 yl => ?_⟩
    obtain ⟨sm3, Fv, rv, _⟩ := hy v H3 yl
    have srB : ∀ z', SR X.K TR z' (Any H3) H3 (fun _ => False) (bS σ (some v) ix) (blkE ρ1 ds[i] ix) := fun z' => by
      refine SR.readonly rfl (by simp [bS, blkE]) fun j d hj => ⟨rfl, ?_⟩
      cases j with
      | zero =>
        simp only [blkE, look, Option.some.injEq] at hj
        subst hj
        exact ⟨v, Fv, rfl, rv⟩
      | succ j =>
        have hj' : look (ix.map (look ρ1)) j = some d := hj
        rw [look_map] at hj'
        cases hx : ix[j]? with
        | none => rw [hx] at hj'; cases hj'
        | some q =>
          rw [hx] at hj'
          obtain ⟨fp, s1⟩ := (p.sr.same sm).same sm3
          obtain ⟨u, hu, ru⟩ := s1.at_ q d hj'
          refine ⟨u, fp q, ?_, ru⟩
          show (ix.map fun i => (σ[i]?).getD none)[j]? = some (some u)
          rw [List.getElem?_map, hx]
          simp [hu]
    intro cl C s₀ H₀ fp
    refine (Classical.choose_spec (ht cl C s₀ H₀ fp)).2 (fun _ => .non) (Any H3) (bS σ (some v) ix) H3 (fun _ => False) (blkE ρ1 ds[i] ix) _ _ (srB _) q1 fun bb H4 W4 ρ4 p4 q4 => ?_
    obtain ⟨sm4, hW4, hρ4⟩ := p4.calm rfl
    have re4 := ((re.same sm3).same sm4)
    cases bb with
    | false => exact ⟨ds.length - (i + 1), by omega, rfl, hlt, (sm.trans sm3).trans sm4, es, F, re4, nd, nw, q4⟩
    | true =>
      show if true = true then _ else _
      rw [if_pos rfl]
      intro cl C s₀ H₀ fp
      refine (Classical.choose_spec (he cl C s₀ H₀ fp)).2 (fun _ => .non) (Any H3) (bS σ (some v) ix) H4 W4 (blkE ρ1 ds[i] ix) _ _ (hρ4 ▸ p4.sr) (by simpa using q4) fun u H5 W5 y ρ5 Fy p5 q5 => ?_
      obtain ⟨sm5, _, _⟩ := p5.calm rfl
      obtain ⟨ny, ky⟩ := p5.own rfl
      have sm15 : Same H1 H5 := ((sm.trans sm3).trans sm4).trans sm5
      refine ⟨ds.length - (i + 1), by omega, rfl, hlt, sm15, es ++ [y], F ++ Fy, (re4.same sm5).snoc p5.rep, nodup_ins nd ny fun a ha hf => ?_, fun a ha => ?_, q5⟩
      · obtain ⟨ob, e1, _⟩ := re4.dom a hf
        rw [(ky a ha).1] at e1; cases e1
      · rcases List.mem_append.mp ha with ha | ha
        · exact nw a ha
        · exact ((sm.trans sm3).trans sm4).free (ky a ha).1
  · have e : i = ds.length := by omega
    subst e
    obtain ⟨hz, q1⟩ := hd es i2
    refine .inl ⟨j1 (Nat.le_refl _), by rw [re.length]; exact hz, fun l hl => ?_⟩
    have hl1 : H1 l = none := sm.free hl
    refine k _ _ W1 (.lst es) ρ1 (l :: F) ⟨(p.sr.same sm).same (same_upd hl), (p.fr.trans (FrW.same W1 sm)).trans (FrW.same W1 (same_upd hl)), fun h => ⟨((p.calm h).1.trans sm).trans (same_upd hl), (p.calm h).2⟩, .lst upd_same (re.same (same_upd hl)), fun _ => ⟨List.nodup_cons.mpr ⟨fun h => ?_, nd⟩, fun b hb => ?_⟩⟩ q1
    · obtain ⟨ob, e1, _⟩ := re.dom l h
      rw [hl] at e1; cases e1
    · rcases List.mem_cons.mp hb with rfl | hb
      · exact ⟨p.fr.dom _ hl1, p.sr.nw hl1⟩
      · exact ⟨p.fr.dom _ (nw b hb), p.sr.nw (nw b hb)⟩
theorem ev_comp {elt iter : Expr} {px : Pos} {scope : Scope} {ifs : List Expr} {ix : List Nat} (h : CompOk X T m elt iter x px scope ifs ix w) (B : BlkScope X.env scope x)
    (hix : ∀ i ∈ ix, ∃ y, X.N[i]? = some y ∧ scope.names.lookup y = some .free) (hN : (bN X.N x ix).Nodup) (hc : X.calm = true := by rfl)
    (hs : ∀ x, foldedSetIterable iter X.env x = pure x := by intro _; rfl) : EV X T m true (.ListComp elt [⟨.Name x px, iter, ifs, 0⟩] scope pos) w := by
  obtain ⟨wi, tt, te, h1, h2, h3, h4⟩ := h
  exact ⟨_, pe_comp ix hc B hix hN h1 h2 h3 hs, h4⟩
theorem sv_comp {elt iter : Expr} {y : Str} {px py spos : Pos} {scope : Scope} {ifs : List Expr} {ix : List Nat} {j : Nat} (h : CompOk X T m elt iter x px scope ifs ix w) (B : BlkScope X.env scope x) (hNd : X.N.Nodup)
    (hix : ∀ i ∈ ix, ∃ y, X.N[i]? = some y ∧ scope.names.lookup y = some .free) (hN : (bN X.N x ix).Nodup) (hj : X.N[j]? = some y := by rfl) (hy : Loc X.env.scope y := by first | exact Or.inl rfl | exact Or.inr rfl) (hio : j ∉ T.io := by decide)
    (hsw : swapsWith (.ListComp elt [⟨.Name x px, iter, ifs, 0⟩] scope pos) (some (.Name y py)) spos.line X.env = pure true := by rfl)
    (hf : X.fn y = true ∨ X.env.scope.names.lookup y = some .local := by first | exact .inl rfl | exact .inr rfl | assumption) (hc : X.calm = true := by rfl)
    (hs : ∀ x, foldedSetIterable iter X.env x = pure x := by intro _; rfl) : SV X T (.Assign [.Name y py] (.ListComp elt [⟨.Name x px, iter, ifs, 0⟩] scope pos) spos) (wSet j w) := by
  obtain ⟨wi, tt, te, h1, h2, h3, h4⟩ := h
  exact sv_setC ⟨_, ps_comp ix hc B hNd hj hy hsw hix hN h1 h2 h3 hf hs, h4⟩ hio
end
end PV
set_option Elab.async false
set_option linter.all false
set_option maxRecDepth 100000
set_option maxHeartbeats 4000000
namespace PV
open PySem PySem.Spec L2
section
variable {X : Cx} {T : Tg} {m o m0 m1 m2 m3 o1 o2 : Bool} {e a b : Expr} {w wa wb we : WE} {pos p2 p : Pos} {es : List Expr} {wr : WA} {x : Str} {wt : WT}
abbrev WO := Env → (Option Int → Env → Prop) → Prop
def OV (X : Cx) (T : Tg) (m : Bool) (e : Option Expr) (w : WO) : Prop :=
  ∃ t, PO X e t ∧ ∀ (z : Nat → V) (R : Addr → Prop) (σ : St) (H : Hp) (W : Addr → Prop) (ρ : Env) (Q : Option Int → Env → Prop) (Q' : Option Int → Hp → Prop), SR X.K T z R H W σ ρ → w ρ Q →
    (∀ b H' W' ρ', PostT X.K T z R m H W σ ρ H' W' ρ' → Q b ρ' → Q' b H') → t σ H Q'
def wNone : WO := fun ρ Q => Q none ρ
def wSome (w : WE) : WO := fun ρ Q => w ρ fun d ρ' => match d with
  | .int i => Q (some i) ρ'
  | _ => False
theorem ov_none : OV X T false none wNone := ⟨_, po_none, fun z R σ H W ρ Q Q' s hw k => k none H W ρ ⟨s, FrW.refl H W, fun _ => ⟨Same.refl H, rfl, rfl⟩⟩ hw⟩
theorem ov_some (h : EV X T m o e w) : OV X T m (some e) (wSome w) := by
  obtain ⟨t, pt, g⟩ := h
  refine ⟨_, po_some pt, fun z R σ H W ρ Q Q' s hw k => g z R σ H W ρ _ _ s hw fun v H1 W1 d ρ1 F p q => ?_⟩
  cases d with
  | int i => exact ⟨i, rep_int p.rep, k (some i) H1 W1 ρ1 ⟨p.sr, p.fr, p.calm⟩ q⟩
  | _ => exact q.elim
def cutD (xs : List D) (lo hi : Option Int) : List D := (xs.drop (HT.sIx xs.length 0 lo)).take (HT.sIx xs.length xs.length hi - HT.sIx xs.length 0 lo)
theorem Reps.cut {K : PySem.W.Frag} {H : Hp} {ds : List D} {xs : List V} {lo hi : Option Int} (r : Reps K H ds xs []) : Reps K H (cutD ds lo hi) (cutV xs lo hi) [] := by
  unfold cutD cutV
  rw [r.length]
  obtain ⟨G, r1, s1⟩ := r.drop (HT.sIx ds.length 0 lo)
  obtain ⟨G', r2, s2⟩ := r1.take (HT.sIx ds.length ds.length hi - HT.sIx ds.length 0 lo)
  have := List.sublist_nil.mp s1
  subst this
  have := List.sublist_nil.mp s2
  subst this
  exact r2
theorem sl_any : SlR X (fun x lo hi H Q => rSlL X.K x lo hi H Q ∨ rSlT X.K x lo hi H Q) := SlR.or sl_list sl_tup
def dRange : GA
  | [.int j], k => 0 ≤ j ∧ j ≤ 1000 ∧ k (.lst (rngD 0 j.toNat))
  | _, _ => False
theorem ev_listRange {p3 p4 pos2 : Pos} (hm : X.mg "range" = none) (hm2 : X.mg "list" = none) (ha : AV X T m o [a] wr) (hg : Gl X "range" := by rfl) (hg2 : Gl X "list" := by rfl) (hc : X.calm = true := by rfl) (hs : starEach [a] X.env = [(false, eval a X.env)] := by rfl)
    (hs2 : starEach [.Call (.Name "range" p4) [a] [] pos2] X.env = (false, eval (.Call (.Name "range" p4) [a] [] pos2) X.env) :: starEach [] X.env := by rfl) :
    EV X T m true (.Call (.Name "list" p3) [.Call (.Name "range" p4) [a] [] pos2] [] pos) (wCall dRange wr) := by
  obtain ⟨ta, pa, ga⟩ := ha
  refine ⟨_, pe_callTy (call_list_rng hc) hg2 hm2 (by rfl) (pa_cons (pe_range1 hg hm pa hs) pa_nil hs2), fun z R σ H W ρ Q Q' s hw k => ?_⟩
  refine ga z R σ H W ρ _ _ s hw fun vs H1 W1 ds ρ1 F p q => ?_
  match ds, p, q with
  | [.int j], p, q =>
    obtain ⟨v, rfl, rd⟩ := p.rep.at1
    cases rd
    refine ⟨j, rfl, fun r hr => ⟨r, j, rfl, upd_same, q.1, q.2.1, fun l hl => ?_⟩⟩
    have s12 : Same H1 (upd (upd H1 r (.rng 0 j)) l (.lst ((List.range j.toNat).map fun i => .int (i : Nat)))) := (same_upd hr).trans (same_upd hl)
    refine k _ _ W1 (.lst (rngD 0 j.toNat)) ρ1 [l] (Post.fin p.sr p.fr p.calm s12 (.lst upd_same ?_) (by simp) fun b mb => by rw [List.mem_singleton.mp mb]; exact (same_upd hr).free hl) q.2.2
    have e1 : rngD 0 j.toNat = ((List.range j.toNat).map fun (i : Nat) => (i : Int)).map D.int := by simp [rngD]
    have e2 : ((List.range j.toNat).map fun (i : Nat) => V.int (i : Nat)) = ((List.range j.toNat).map fun (i : Nat) => (i : Int)).map V.int := by simp
    rw [e1, e2]
    exact Reps.ints _
theorem RepK.get {K : PySem.W.Frag} {H : Hp} : ∀ {ds : List (Key × D)} {xs : List (Key × V)} {F : List Addr} {i : Nat} {k : Key} {v : V}, RepK K H ds xs F → xs[i]? = some (k, v) → ∃ d B, ds[i]? = some (k, d) ∧ Rep K H d v B ∧ B.Sublist F
  | [], _, _, _, _, _, r, h => by cases r; simp at h
  | d :: ds, _, _, i, _, _, r, h => by
    cases r with
    | @cons j d v _ vs F G p r =>
      cases i with
      | zero =>
        simp at h
        obtain ⟨rfl, rfl⟩ := h
        exact ⟨d, F, rfl, p, List.sublist_append_left _ _⟩
      | succ i =>
        obtain ⟨d', B, h1, h2, h3⟩ := RepK.get r (i := i) (by simpa using h)
        exact ⟨d', B, by simpa using h1, h2, h3.trans (List.sublist_append_right _ _)⟩
end
end PV
set_option Elab.async false
set_option linter.all false
set_option maxRecDepth 100000
set_option maxHeartbeats 4000000
namespace PV
open PySem PySem.Spec L2
section
variable {κ : Type} [DecidableEq κ]
theorem putD_ne {j k : κ} {d y : D} {r : List (κ × D)} (h : ¬ j = k) : putD ((j, d) :: r) k y = (j, d) :: putD r k y := by
  unfold putD
  by_cases q : (r.any fun kv => decide (kv.1 = k)) = true
  · rw [if_pos (by rw [List.any_cons, q]; simp), if_pos q, List.map_cons, if_neg h]
  · rw [if_neg (by rw [List.any_cons]; simp only [h, decide_false, Bool.false_or]; exact q), if_neg q]; rfl
theorem map_none {k : κ} {y : D} : ∀ {r : List (κ × D)}, k ∉ r.map (·.1) → (r.map fun kv => if kv.1 = k then (kv.1, y) else kv) = r
  | [], _ => rfl
  | p :: r, h => by
    simp only [List.map_cons, List.mem_cons, not_or] at h
    rw [List.map_cons, if_neg (fun z => h.1 z.symm), map_none h.2]
theorem putD_hd {k : κ} {d y : D} {r : List (κ × D)} (h : k ∉ r.map (·.1)) : putD ((k, d) :: r) k y = (k, y) :: r := by
  unfold putD
  rw [if_pos (by rw [List.any_cons]; simp), List.map_cons, if_pos rfl, map_none h]
end
section
variable {K : PySem.W.Frag} {H : Hp}
theorem RepK.app {k : Key} {xs : List D} : ∀ {ds : List (Key × D)} {kvs : List (Key × V)} {F : List Addr}, RepK K H ds kvs F → F.Nodup → (ds.map (·.1)).Nodup → valD ds k = some (.lst xs) →
    ∃ l ys, valV kvs k = some (.ref l) ∧ H l = some (.lst ys) ∧ l ∈ F ∧ ys.length = xs.length ∧ ∀ v x, Rep K H x v [] → RepK K (L2.upd H l (.lst (ys ++ [v]))) (putD ds k (.lst (xs ++ [x]))) kvs F
  | [], _, _, r, _, _, h => by cases h
  | (j, d) :: ds, _, _, r, nd, hk, h => by
    cases r with
    | @cons _ _ v _ vs F G p r =>
      obtain ⟨n1, n2, n3⟩ := List.nodup_append.mp nd
      obtain ⟨k1, k2⟩ := List.nodup_cons.mp (show (j :: ds.map (·.1)).Nodup from hk)
      rw [valD_cons] at h
      by_cases e : j = k
      · subst e
        rw [if_pos rfl] at h
        cases h
        cases p with
        | @lst l ys _ F0 e1 r1 =>
          obtain ⟨nl, n0⟩ := List.nodup_cons.mp n1
          refine ⟨l, ys, valV_pos rfl, e1, List.mem_append.mpr (.inl List.mem_cons_self), r1.length, fun v x rx => ?_⟩
          rw [putD_hd k1]
          refine .cons (.lst upd_same ?_) (r.upd e1 rfl fun h => n3 l List.mem_cons_self l h rfl)
          have := (r1.upd (ob' := .lst (ys ++ [v])) e1 rfl nl).snoc (rx.upd e1 rfl (fun h => nomatch h))
          simpa using this
      · rw [if_neg e] at h
        obtain ⟨l, ys, h1, h2, h3, h4, h5⟩ := RepK.app r n2 k2 h
        refine ⟨l, ys, by rw [valV_neg e]; exact h1, h2, List.mem_append.mpr (.inr h3), h4, fun v x rx => ?_⟩
        rw [putD_ne e]
        exact .cons (p.upd h2 rfl fun h => n3 l h l h3 rfl) (h5 v x rx)
end
section
variable {X : Cx} {T : Tg} {m o m0 m1 m2 m3 o1 o2 : Bool} {e a b : Expr} {w wa wb we : WE} {pos p2 p : Pos} {es : List Expr} {wr : WA} {x : Str} {wt : WT}
def keyOf : D → Option Key
  | .int i => some (.inl i)
  | .str i => some (.inr i)
  | _ => none
theorem Rep.key {K : PySem.W.Frag} {H : Hp} {d : D} {v : V} {F : List Addr} {k : Key} (r : Rep K H d v F) (h : keyOf d = some k) : v = kV k := by
  cases r <;> simp [keyOf] at h <;> subst h <;> rfl
def sdNew (kvs : List (Key × D)) (k : Key) : List (Key × D) := if (valD kvs k).isNone then kvs ++ [(k, .lst [])] else kvs
def wSda (i : Nat) (wk wv : WE) : WS := fun P ρ => oget (look ρ i) fun s => match s with
  | .dik kvs => kvs.length < sizeLine ∧ (kvs.map (·.1)).Nodup ∧ wk ρ fun kd _ => oget (keyOf kd) fun k => oget (valD (sdNew kvs k) k) fun l => match l with
    | .lst xs => xs.length < sizeLine ∧ wv (ρ.set i (some (.dik (sdNew kvs k)))) fun d _ => d.pure = true ∧ P.nx (ρ.set i (some (.dik (putD (sdNew kvs k) k (.lst (xs ++ [d]))))))
    | _ => False
  | _ => False
theorem set_self : ∀ {ρ : Env} {i : Nat} {d : D}, look ρ i = some d → ρ.set i (some d) = ρ
  | [], _, _, h => by simp [look] at h
  | a :: r, 0, d, h => by simp only [look] at h; rw [h]; rfl
  | a :: r, i + 1, d, h => by simp only [List.set_cons_succ]; rw [set_self (ρ := r) (i := i) h]
theorem nd_key {κ : Type} [DecidableEq κ] {kvs : List (κ × D)} {k : κ} {d : D} (h : (kvs.map (·.1)).Nodup) (hn : valD kvs k = none) : ((kvs ++ [(k, d)]).map (·.1)).Nodup := by
  rw [List.map_append]
  refine List.nodup_append.mpr ⟨h, by simp, fun a ha b hb e => ?_⟩
  have hb' : b = k := by simpa using hb
  subst e hb'
  obtain ⟨q, hq, e⟩ := List.mem_map.mp ha
  have : (kvs.any fun kv => decide (kv.1 = a)) = true := List.any_eq_true.mpr ⟨q, hq, decide_eq_true e⟩
  rw [anyD_iff, hn] at this
  cases this
theorem sv_sda {i : Nat} {ek ev : Expr} {wk wv : WE} {ap1 ap2 cp1 cp2 pl : Pos} (hk : EV X T false o1 ek wk) (hv : EV X T false o2 ev wv) (ht : T.own i = true := by rfl) (hN : X.N[i]? = some x := by rfl)
    (hvis : Vis X.env.scope x := by first | exact Or.inl rfl | exact Or.inr (Or.inl rfl) | exact Or.inr (Or.inr rfl)) (hd : (x == ("__debug__" : Str)) = false := by decide) (hcd : (x == ("__classdict__" : Str)) = false := by decide)
    (b1 : attributeBase (.Name x p) "setdefault" X.env (eval (.Name x p) X.env) = eval (.Name x p) X.env := by rfl)
    (f1 : ((backTo cp1 (starEach [ek, .List [] pl] X.env)).all (fun x => !x.1) && (backToKw cp1 (keywordEach [] X.env)).all (fun x => x.1.isSome)
      && decide (([ek, .List [] pl] : List Expr).length + ([] : List Keyword).length + (if ([] : List Keyword).isEmpty then 0 else 1) < 30)) = true := by rfl)
    (l1 : (ap1.endLine == cp1.line) = true := by rfl) (s1 : starEach [ek, .List [] pl] X.env = (false, eval ek X.env) :: starEach [.List [] pl] X.env := by rfl) (s1' : starEach [.List [] pl] X.env = (false, eval (.List [] pl) X.env) :: starEach [] X.env := by rfl) (q1 : (backTo cp1 (starEach [.List [] pl] X.env)).any (·.1) = false := by rfl)
    (b2 : attributeBase (.Call (.Attribute (.Name x p) "setdefault" ap1) [ek, .List [] pl] [] cp1) "append" X.env (eval (.Call (.Attribute (.Name x p) "setdefault" ap1) [ek, .List [] pl] [] cp1) X.env) = eval (.Call (.Attribute (.Name x p) "setdefault" ap1) [ek, .List [] pl] [] cp1) X.env := by rfl)
    (f2 : ((backTo cp2 (starEach [ev] X.env)).all (fun x => !x.1) && (backToKw cp2 (keywordEach [] X.env)).all (fun x => x.1.isSome)
      && decide (([ev] : List Expr).length + ([] : List Keyword).length + (if ([] : List Keyword).isEmpty then 0 else 1) < 30)) = true := by rfl)
    (l2 : (ap2.endLine == cp2.line) = true := by rfl) (s2 : starEach [ev] X.env = (false, eval ev X.env) :: starEach [] X.env := by rfl) (q2 : (backTo cp2 (starEach [] X.env)).any (·.1) = false := by rfl)
    (hs : swapsWith (.Call (.Attribute (.Call (.Attribute (.Name x p) "setdefault" ap1) [ek, .List [] pl] [] cp1) "append" ap2) [ev] [] cp2) none pos.line X.env = pure false := by rfl) :
    SV X T (.Expr (.Call (.Attribute (.Call (.Attribute (.Name x p) "setdefault" ap1) [ek, .List [] pl] [] cp1) "append" ap2) [ev] [] cp2) pos) (wSda i wk wv) := by
  obtain ⟨tk, pk, gk⟩ := hk
  obtain ⟨tv, pv, gv⟩ := hv
  refine ⟨_, ps_expr (pe_bm PySem.F.plainAttrs_list PySem.F.slot_list_append PySem.F.type_list_append mt_append (pe_bm PySem.F.plainAttrs_dict PySem.F.slot_dict_setdefault PySem.F.type_dict_setdefault mt_setdefault (pe_var hN hvis hd hcd) (pa_cons pk (pa_cons (pe_lst pa_nil) pa_nil s1') s1) b1 f1 l1 s1 q1) (pa_cons pv pa_nil s2) b2 f2 l2 s2 q2) hs, fun z R σ H W ρ P E s hw l => ?_⟩
  obtain ⟨sd, hl0, hw⟩ := oget_some hw
  match sd, hl0, hw with
  | .dik kvs, hl0, hw =>
  obtain ⟨hz, hnd, hw⟩ := hw
  obtain ⟨fp, s0⟩ := id s
  obtain ⟨v0, hv0, r0⟩ := s0.at_ i _ hl0
  refine ⟨v0, hv0, tyV_of r0 (t := "dict") rfl, ?_⟩
  refine gk z R σ H W ρ _ _ s hw fun vk H1 W1 kd ρ1 Fk p q => ?_
  obtain ⟨sm1, hW1, hρ1⟩ := p.calm rfl
  subst hW1 hρ1
  obtain ⟨k, hkey, q⟩ := oget_some q
  have ek := p.rep.key hkey
  subst ek
  obtain ⟨ld, hval, q⟩ := oget_some q
  match ld, hval, q with
  | .lst xs, hval, q =>
  obtain ⟨hxz, q⟩ := q
  -- what is to be done with the list that comes
  have fin : ∀ (Hs : Hp) (Ws : Addr → Prop) (y : V), SR X.K T z R Hs Ws σ (ρ1.set i (some (.dik (sdNew kvs k)))) → FrW H W1 Hs Ws → ((sdNew kvs k).map (·.1)).Nodup → (∀ a kv, v0 = .ref a → Hs a = some (.dK kv) → valV kv k = some y) →
      tyV X.K "list" y Hs ∧ tCons tv tNil σ Hs fun xs H2 => rAppend y xs H2 fun _ H1 => E.nx σ H1 := fun Hs Ws y ss fs hns hy => by
    obtain ⟨fpS, sS⟩ := id ss
    have hlS : look (ρ1.set i (some (.dik (sdNew kvs k)))) i = some (.dik (sdNew kvs k)) := look_set_same (look_lt hl0)
    obtain ⟨vS, hvS, rS⟩ := sS.at_ i _ hlS
    have : vS = v0 := by rw [hv0] at hvS; cases hvS; rfl
    subst this
    obtain ⟨ndS, swS⟩ := sS.own i _ hlS ht
    have app : ∃ (l : Addr) (ys : List V) (a : Addr) (kvS : List (Key × V)), y = .ref l ∧ Hs l = some (.lst ys) ∧ vS = .ref a ∧ Hs a = some (.dK kvS) := by
      generalize fpS i = Fi at rS ndS
      cases rS with
      | @dik a kv _ F e1 r =>
        obtain ⟨na, nF⟩ := List.nodup_cons.mp ndS
        obtain ⟨l, ys, h1, h2, _⟩ := r.app nF hns hval
        have := hy a kv rfl e1
        rw [h1] at this
        cases this
        exact ⟨l, ys, a, kv, rfl, h2, rfl, e1⟩
    obtain ⟨l0, ys0, aS, kvS, rfl, hl0', rfl, eS⟩ := app
    refine ⟨.inl ⟨rfl, _, .of hl0'⟩, ?_⟩
    refine gv z R σ Hs Ws _ _ _ ss q fun vd H2 W2 d ρ2 Fd pd ⟨hp, qn⟩ => ?_
    obtain ⟨sm2, hW2, hρ2⟩ := pd.calm rfl
    subst hW2 hρ2
    obtain ⟨_, rd⟩ := pd.rep.pure hp
    obtain ⟨fp2, s2⟩ := id pd.sr
    obtain ⟨v2, hv2, r2⟩ := s2.at_ i _ hlS
    have : v2 = .ref aS := by rw [hvS] at hv2; cases hv2; rfl
    subst this
    obtain ⟨nd2, sw2⟩ := s2.own i _ hlS ht
    have h2l : H2 l0 = some (.lst ys0) := sm2 _ _ hl0'
    have fin2 : ∃ (ys : List V) (F' : List Addr), H2 l0 = some (.lst ys) ∧ ys.length = xs.length ∧ l0 ∈ fp2 i ∧ Rep X.K (upd H2 l0 (.lst (ys ++ [vd]))) (.dik (putD (sdNew kvs k) k (.lst (xs ++ [d])))) (.ref aS) F' ∧ F' = fp2 i := by
      generalize fp2 i = Fi at r2 nd2
      cases r2 with
      | @dik a kv _ F e1 r =>
        obtain ⟨na, nF⟩ := List.nodup_cons.mp nd2
        obtain ⟨l, ys, h1, h2, h3, h4, h5⟩ := r.app nF hns hval
        have hkv : kv = kvS := by
          have := sm2 _ _ eS
          rw [e1] at this
          cases this
          rfl
        subst hkv
        have := hy aS kv rfl eS
        rw [h1] at this
        cases this
        have hne : aS ≠ l0 := fun z => na (z ▸ h3)
        exact ⟨ys, _, h2, h4, List.mem_cons_of_mem _ h3, .dik (by rw [upd_ne hne]; exact e1) (h5 vd d rd), rfl⟩
    obtain ⟨ys, F', h1, h2, h3, h4, rfl⟩ := fin2
    refine ⟨l0, ys, vd, rfl, rfl, h1, by rw [h2]; exact hxz, ?_⟩
    have hWl := sw2 l0 h3
    have sF := s2.write hlS ht hv2 h3 upd_keep ⟨_, upd_same, rfl⟩ h4 nd2 (fun a ha => .inl ha)
    have fF := (fs.trans pd.fr).write hWl (s2.wd l0 hWl) (H' := upd H2 l0 (.lst (ys ++ [vd]))) upd_keep ⟨_, upd_same, rfl⟩ (F' := fp2 i) (fun a ha => .inl (sw2 a ha))
    rw [List.set_set] at sF
    exact l.nx R σ _ _ _ sF fF qn
  refine ⟨Nat.zero_le _, fun pn hpn => ?_⟩
  have smn : Same H1 (upd H1 pn (.lst [])) := same_upd hpn
  have sn := p.sr.same smn
  have fn1 : FrW H W1 (upd H1 pn (.lst [])) W1 := p.fr.trans (FrW.same W1 smn)
  obtain ⟨fp1, s1⟩ := id sn
  obtain ⟨v1, hv1, r1⟩ := s1.at_ i _ hl0
  have : v1 = v0 := by rw [hv0] at hv1; cases hv1; rfl
  subst this
  obtain ⟨nd1, sw1⟩ := s1.own i _ hl0 ht
  have hpnW : ¬ W1 pn := p.sr.nw hpn
  have hpnR : ¬ R pn := p.sr.nr hpn
  have hpn0 : H pn = none := sm1.free hpn
  have rep1 : ∃ (a : Addr) (kv : List (Key × V)) (F : List Addr), v1 = .ref a ∧ upd H1 pn (.lst []) a = some (.dK kv) ∧ RepK X.K (upd H1 pn (.lst [])) kvs kv F ∧ fp1 i = a :: F := by
    generalize fp1 i = Fi at r1
    cases r1 with
    | @dik a kv _ F e1 r => exact ⟨a, kv, F, rfl, e1, r, rfl⟩
  obtain ⟨a, kv, F, rfl, e1, r, hfp⟩ := rep1
  rw [hfp] at nd1 sw1
  obtain ⟨na, nF⟩ := List.nodup_cons.mp nd1
  refine ⟨a, kv, k, .ref pn, rfl, rfl, e1, by rw [r.length]; exact hz, fun y hy => ?_, fun hn => ?_⟩
  · have hs : (valD kvs k).isNone = false := by
      rcases r.val k with ⟨_, h2⟩ | ⟨d, v, B, h1, _⟩
      · rw [hy] at h2; cases h2
      · rw [h1]; rfl
    have e2 : sdNew kvs k = kvs := by unfold sdNew; rw [hs]; rfl
    refine fin _ W1 y ?_ fn1 (by rw [e2]; exact hnd) fun a' kv' ea ha => ?_
    · rw [e2, set_self hl0]; exact sn
    · cases ea
      rw [e1] at ha
      cases ha
      exact hy
  · have hs : valD kvs k = none := by
      rcases r.val k with ⟨h1, _⟩ | ⟨d, v, B, _, h2, _⟩
      · exact h1
      · rw [hn] at h2; cases h2
    have e2 : sdNew kvs k = kvs ++ [(k, .lst [])] := by unfold sdNew; rw [hs]; rfl
    have hapn : a ≠ pn := fun z => hpnW (z ▸ sw1 a List.mem_cons_self)
    have hput := putK_new (V.ref pn) hn
    have rN : Rep X.K (upd (upd H1 pn (.lst [])) a (.dK (putK kv k (.ref pn)))) (.dik (sdNew kvs k)) (.ref a) (a :: (F ++ [pn])) := by
      rw [e2, hput]
      refine .dik upd_same ((r.upd e1 rfl na).append ?_)
      have : Rep X.K (upd (upd H1 pn (.lst [])) a (.dK (kv ++ [(k, .ref pn)]))) (.lst []) (.ref pn) [pn] := .lst (by rw [upd_ne (Ne.symm hapn), upd_same]) .nil
      have := RepK.cons (k := k) this .nil
      simpa using this
    have ndN : (a :: (F ++ [pn])).Nodup := by
      refine List.nodup_cons.mpr ⟨fun h => ?_, nodup_ins nF (by simp) fun b hb hf => ?_⟩
      · rcases List.mem_append.mp h with h | h
        · exact na h
        · exact hapn (List.mem_singleton.mp h)
      · rw [List.mem_singleton.mp hb] at hf
        exact hpnW (sw1 pn (List.mem_cons_of_mem _ hf))
    have hWa := sw1 a List.mem_cons_self
    have sN := s1.write hl0 ht hv1 (by rw [hfp]; exact List.mem_cons_self) upd_keep ⟨_, upd_same, rfl⟩ rN ndN (fun b hb => by
      rcases List.mem_cons.mp hb with rfl | hb
      · exact .inl (by rw [hfp]; exact List.mem_cons_self)
      · rcases List.mem_append.mp hb with hb | hb
        · exact .inl (by rw [hfp]; exact List.mem_cons_of_mem _ hb)
        · rw [List.mem_singleton.mp hb]; exact .inr ⟨hpnW, hpnR⟩)
    have fN := fn1.write (H' := upd (upd H1 pn (.lst [])) a (.dK (putK kv k (.ref pn)))) (F' := a :: (F ++ [pn])) hWa (s1.wd a hWa) upd_keep ⟨_, upd_same, rfl⟩ (fun b hb => by
      rcases List.mem_cons.mp hb with rfl | hb
      · exact .inl hWa
      · rcases List.mem_append.mp hb with hb | hb
        · exact .inl (sw1 b (List.mem_cons_of_mem _ hb))
        · rw [List.mem_singleton.mp hb]; exact .inr hpn0)
    refine fin _ _ (.ref pn) sN fN (by rw [e2]; exact nd_key hnd hs) fun a' kv' ea ha => ?_
    cases ea
    rw [upd_same] at ha
    cases ha
    rw [valV_put, if_pos rfl]
end
end PV
set_option Elab.async false
set_option linter.all false
set_option maxRecDepth 100000
set_option maxHeartbeats 4000000
namespace PV
open PySem PySem.Spec L2
section
variable {X : Cx} {T : Tg} {m o m0 m1 m2 m3 o1 o2 : Bool} {e a b : Expr} {w wa wb we : WE} {pos p2 p : Pos} {es : List Expr} {wr : WA} {x : Str} {wt : WT}
abbrev tupI (k : List Int) : D := .tup (k.map .int)
theorem Reps.tups {K : PySem.W.Frag} {H : Hp} : ∀ {keys : List (List Int)} {ys : List V} {F : List Addr}, Reps K H (keys.map tupI) ys F → F = [] ∧ ∃ as : List Addr, ys = as.map V.ref ∧ as.length = keys.length ∧ ∀ (i : Nat) k, keys[i]? = some k → ∃ a, as[i]? = some a ∧ H a = some (.tup (k.map V.int))
  | [], _, _, r => by cases r; exact ⟨rfl, [], rfl, rfl, fun i k h => by simp at h⟩
  | k :: keys, _, _, r => by
    cases r with
    | cons p r =>
      obtain ⟨hF, as, h1, h2, h3⟩ := Reps.tups r
      cases p with
      | @tup a xs _ F e q =>
        obtain ⟨h4, h5⟩ := q.of_ints
        subst h4 h5 h1
        refine ⟨by rw [hF]; rfl, a :: as, rfl, by simp [h2], fun i k' hk => ?_⟩
        cases i with
        | zero => simp at hk; subst hk; exact ⟨a, rfl, e⟩
        | succ i => simpa using h3 i k' (by simpa using hk)
variable {rest : List Expr}
theorem Post.after {K : PySem.W.Frag} {z : Nat → V} {R : Addr → Prop} {H H1 H2 : Hp} {W W1 W2 : Addr → Prop} {σ : St} {ρ ρ1 ρ2 : Env} {d1 d2 : D} {v1 v2 : V} {F1 F2 : List Addr} (p : Post K T z R m1 o1 H W σ ρ H1 W1 ρ1 d1 v1 F1) (q : Post K T z R m2 o2 H1 W1 σ ρ1 H2 W2 ρ2 d2 v2 F2) :
    Post K T z R (m1 || m2) o2 H W σ ρ H2 W2 ρ2 d2 v2 F2 := ⟨q.sr, p.fr.trans q.fr, p.calm2 q, q.rep, p.lastOwn q⟩
end
end PV
set_option Elab.async false
set_option linter.all false
set_option maxRecDepth 100000
set_option maxHeartbeats 4000000
namespace PV
open PySem PySem.Spec L2
theorem bt_min : bootBuiltins "min" = some (.builtin "min") := by decide +kernel
theorem bt_len : bootBuiltins "len" = some (.builtin "len") := by decide +kernel
theorem bt_max : bootBuiltins "max" = some (.builtin "max") := by decide +kernel
theorem bt_int : bootBuiltins "int" = some (.type "int") := by decide +kernel
theorem bt_tuple : bootBuiltins "tuple" = some (.type "tuple") := by decide +kernel
def wLift (w : WE) : WE := fun ρ Q => w ρ fun d ρ' => d.pure = true ∧ Q d ρ'
def Cal (P : Program) (w : World) (K : PySem.W.Frag) (mg : Str → Option Value) (base : Heap) (x : Str) (k : Nat) (ps : List Str) (sp : Sp) : Prop :=
  ∃ f fd, FnOk P w K mg base CX0 k f fd ps sp ∧ mg x = some (.ref f) ∧ PySem.W.keepIn K (.ref f) = true ∧ Binds K fd ps []
section
variable {X : Cx} {T : Tg} {m o m0 m1 m2 m3 o1 o2 : Bool} {e a b : Expr} {w wa wb we : WE} {pos p2 p : Pos} {es : List Expr} {wr : WA} {x : Str} {wt : WT} {k j : Nat} {ps : List Str}
theorem ev_lift (h : EV X T m o e w) : EV X T m true e (wLift w) := h.lift
theorem ev_callC {g : GA} (C : Cal X.prog X.w X.K X.mg X.base x k ps (spR X.K g)) (hr : Room k X.A) (ha : AV X T m o (e :: es) wr) (hg : Gl X x := by rfl)
    (hdb : (x == ("__debug__" : Str)) = false := by decide) (he : starEach (e :: es) X.env = (false, eval e X.env) :: starEach es X.env := by rfl) (hpl : (backTo pos (starEach es X.env)).any (·.1) = false := by rfl) :
    EV X T m true (.Call (.Name x p) (e :: es) [] pos) (wCall g wr) := by
  obtain ⟨f, fd, F, h1, h2, h3⟩ := C
  exact ev_call F hr h1 h2 h3 ha hg hdb he hpl
theorem ev_callIC {i q : Nat} {g : GI} {wi : WI} (C : Cal X.prog X.w X.K X.mg X.base x k ps (spI X.K q g)) (hr : Room k X.A) (ha : AI X T m i q (e :: es) wi) (ht : T.own i = true := by rfl) (hg : Gl X x := by rfl)
    (hdb : (x == ("__debug__" : Str)) = false := by decide) (he : starEach (e :: es) X.env = (false, eval e X.env) :: starEach es X.env := by rfl) (hpl : (backTo pos (starEach es X.env)).any (·.1) = false := by rfl) :
    EV X T true true (.Call (.Name x p) (e :: es) [] pos) (wCallI i g wi) := by
  obtain ⟨f, fd, F, h1, h2, h3⟩ := C
  exact ev_callI F hr h1 h2 h3 ha ht hg hdb he hpl
def compB (sc scope : Scope) (N : List Str) (x : Str) (ix : List Nat) : Bool :=
  (scope.kind == .function) && scope.names.all (fun y => y.2 != .cell) && scope.names.all (fun y => y.2 != .local || scope.names.lookup y.1 == some .local) && (scope.names.lookup x == some .local) &&
    scope.names.all (fun y => y.2 != .free || (sc.names.lookup y.1 == some .cell || sc.names.lookup y.1 == some .free)) &&
    ix.all (fun i => match N[i]? with | some y => scope.names.lookup y == some .free | none => false) && decide (bN N x ix).Nodup
structure CompB (X : Cx) (scope : Scope) (x : Str) (ix : List Nat) : Prop where
  B : BlkScope X.env scope x
  hix : ∀ i ∈ ix, ∃ y, X.N[i]? = some y ∧ scope.names.lookup y = some .free
  hN : (bN X.N x ix).Nodup
theorem compB_mk {scope : Scope} {ix : List Nat} (sc : Scope) (N : List Str) (h : compB sc scope N x ix = true) (h1 : X.env.scope = sc := by rfl) (h2 : X.N = N := by rfl) : CompB X scope x ix := by
  subst h1 h2
  simp only [compB, Bool.and_eq_true, List.all_eq_true, Bool.or_eq_true, decide_eq_true_eq, beq_iff_eq, bne_iff_ne] at h
  obtain ⟨⟨⟨⟨⟨⟨a1, a2⟩, a3⟩, a4⟩, a5⟩, a6⟩, a7⟩ := h
  refine ⟨⟨a1, a2, fun y hy e => (a3 y hy).resolve_left (fun z => z e), a4, fun y hy e => (a5 y hy).resolve_left (fun z => z e)⟩, fun i hi => ?_, a7⟩
  have := a6 i hi
  cases q : X.N[i]? with
  | none => rw [q] at this; cases this
  | some y =>
    rw [q] at this
    exact ⟨y, rfl, by simpa using this⟩
theorem ev_compB {elt iter : Expr} {px : Pos} {scope : Scope} {ifs : List Expr} {ix : List Nat} (h : CompOk X T m elt iter x px scope ifs ix w) (B : CompB X scope x ix) (hc : X.calm = true := by rfl)
    (hs : ∀ x, foldedSetIterable iter X.env x = pure x := by intro _; rfl) : EV X T m true (.ListComp elt [⟨.Name x px, iter, ifs, 0⟩] scope pos) w := ev_comp h B.B B.hix B.hN hc hs
theorem sv_compB {elt iter : Expr} {y : Str} {px py spos : Pos} {scope : Scope} {ifs : List Expr} {ix : List Nat} {j : Nat} (h : CompOk X T m elt iter x px scope ifs ix w) (B : CompB X scope x ix) (hNd : X.N.Nodup)
    (hj : X.N[j]? = some y := by rfl) (hy : Loc X.env.scope y := by first | exact Or.inl rfl | exact Or.inr rfl) (hio : j ∉ T.io := by decide)
    (hsw : swapsWith (.ListComp elt [⟨.Name x px, iter, ifs, 0⟩] scope pos) (some (.Name y py)) spos.line X.env = pure true := by rfl)
    (hf : X.fn y = true ∨ X.env.scope.names.lookup y = some .local := by first | exact .inl rfl | exact .inr rfl | assumption) (hc : X.calm = true := by rfl)
    (hs : ∀ x, foldedSetIterable iter X.env x = pure x := by intro _; rfl) : SV X T (.Assign [.Name y py] (.ListComp elt [⟨.Name x px, iter, ifs, 0⟩] scope pos) spos) (wSet j w) := sv_comp h B.B hNd B.hix B.hN hj hy hio hsw hf hc hs
end
end PV
set_option Elab.async false
set_option linter.all false
set_option maxRecDepth 100000
set_option maxHeartbeats 4000000
namespace PV
open PySem PySem.Spec L2
section
variable {X : Cx} {T : Tg} {m o m0 m1 m2 m3 o1 o2 : Bool} {e a b : Expr} {w wa wb we : WE} {pos p2 p : Pos} {es : List Expr} {wr : WA} {x y : Str} {wt : WT} {ws : WS}
end
end PV
set_option Elab.async false
set_option linter.all false
set_option maxRecDepth 100000
set_option maxHeartbeats 4000000
namespace PV
open PySem PySem.Spec L2
section
variable {X : Cx} {T : Tg} {m o m0 m1 m2 m3 o1 o2 : Bool} {e a b : Expr} {w wa wb we : WE} {pos p2 p : Pos} {es : List Expr} {wr : WA} {x y : Str} {wt : WT} {ws : WS}
def kD : Key → D
  | .inl i => .int i
  | .inr x => .str x
theorem rep_kD {K : PySem.W.Frag} {H : Hp} (k : Key) : Rep K H (kD k) (kV k) [] := by
  cases k with
  | inl i => exact .int i
  | inr x => exact .str x
def keysD (kvs : List (Key × D)) : List D := kvs.map fun kv => kD kv.1
def wKeys (w : WE) : WL := fun ρ Q => w ρ fun d ρ' => match d with
  | .dik kvs => Q (keysD kvs) ρ'
  | _ => False
theorem iv_keys {tg oe : Expr} (h : EV X T m true oe w) : IV X T m true tg oe (wKeys w) := by
  obtain ⟨te, pe, ge⟩ := h
  refine ⟨_, pi_keys pe, fun z R σ H W ρ Q RR s hw k => ?_⟩
  refine ge z R σ H W ρ _ _ s hw fun v H1 W1 d ρ1 F p q => ?_
  match d, p, q with
  | .dik es, p, q =>
    obtain ⟨p1, p2, p3, p4, p5⟩ := p
    obtain ⟨nd, kF⟩ := p5 rfl
    cases p4 with
    | @dik dd kvs _ F e1 r =>
      have hd0 := kF dd List.mem_cons_self
      obtain ⟨nF, ndF⟩ := List.nodup_cons.mp nd
      refine ⟨dd, kvs, rfl, e1, fun ob => k _ _ W1 (keysD es) ρ1 ⟨?_, ?_, fun h => ?_⟩ ?_ q⟩
      · obtain ⟨fp, s1⟩ := p1
        have hi : ImmK H1 (upd H1 dd (.frz ob (.dK kvs))) := imm_upd e1 rfl
        refine ⟨fp, s1.len, fun a ha => ?_, fun i d hl => ?_, s1.own, s1.ro, s1.wr, fun a ha => ?_, s1.dis, s1.fix⟩
        · have : a ≠ dd := fun z => hd0.2 (z ▸ ha)
          rw [upd_ne this]; exact s1.wd a ha
        · obtain ⟨u, h1, h2⟩ := s1.at_ i d hl
          refine ⟨u, h1, h2.frame hi fun a ha => upd_ne fun z => ?_⟩
          subst z
          cases hto : T.own i with
          | true => exact hd0.2 ((s1.own i d hl hto).2 _ ha)
          | false => exact s.nr hd0.1 (s1.ro i d hl hto _ ha)
        · have : a ≠ dd := fun z => s.nr hd0.1 (z ▸ ha)
          rw [upd_ne this]; exact s1.rd a ha
      · refine ⟨fun b u e n => ?_, fun b e => ?_, fun b u e im => ?_, p2.new⟩
        · have : b ≠ dd := fun z => by rw [z, hd0.1] at e; cases e
          rw [upd_ne this]; exact p2.keep b u e n
        · by_cases hb : b = dd
          · rw [hb, upd_same] at e; cases e
          · rw [upd_ne hb] at e; exact p2.dom b e
        · have : b ≠ dd := fun z => by rw [z, hd0.1] at e; cases e
          rw [upd_ne this]; exact p2.imm b u e im
      · obtain ⟨a1, a2, a3⟩ := p3 h
        refine ⟨fun b u e => ?_, a2, a3⟩
        have : b ≠ dd := fun z => by rw [z, hd0.1] at e; cases e
        rw [upd_ne this]; exact a1 b u e
      · rw [wz_true]
        intro i H2 W2 f
        have e2 : H2 dd = some (.frz ob (.dK kvs)) := f.imm _ _ upd_same rfl
        have hlen : kvs.length = es.length := r.length
        refine ⟨fun hi => ⟨e2, by rw [keysD, List.length_map] at hi; omega⟩, fun d hd => ?_⟩
        have hi : i < es.length := by have := (List.getElem?_eq_some_iff.mp hd).1; rwa [keysD, List.length_map] at this
        refine ⟨⟨e2, by omega⟩, fun v H3 y => ?_⟩
        obtain ⟨rfl, kk, vv, hk, rfl⟩ := y
        obtain ⟨d', B, h1, h2, h3⟩ := r.get hk
        rw [keysD, List.getElem?_map, h1] at hd
        cases hd
        exact ⟨Same.refl _, [], rep_kD kk, fun a ha => nomatch ha⟩
end
end PV
set_option Elab.async false
set_option linter.all false
set_option maxRecDepth 100000
set_option maxHeartbeats 4000000
namespace PV
open PySem PySem.Spec L2
open PySem.W (Dat kqdP kqdPs kqdOk)
section
variable {X : Cx}
end
end PV
set_option Elab.async false
set_option linter.all false
set_option maxRecDepth 100000
set_option maxHeartbeats 4000000
namespace PV
open PySem PySem.Spec L2
section
variable {X : Cx} {T : Tg} {m o m0 m1 m2 m3 o1 o2 : Bool} {e a b : Expr} {w wa wb we : WE} {pos p2 p : Pos} {es : List Expr} {wr : WA} {x y : Str} {wt : WT} {ws : WS}
theorem Reps.keysD {K : PySem.W.Frag} {H : Hp} : ∀ {ds : List (Key × D)} {kvs : List (Key × V)} {F : List Addr}, RepK K H ds kvs F → Reps K H (keysD ds) (kvs.map fun kv => kV kv.1) []
  | [], _, _, r => by cases r; exact .nil
  | p :: ds, _, _, r => by
    cases r with
    | @cons k d v _ vs F G h r =>
      have := Reps.cons (rep_kD (K := K) (H := H) k) (Reps.keysD r)
      simpa [PV.keysD] using this
def dAddT : G2
  | .int i, .int j, k => k (.int (i + j))
  | .str x, .str y, k => x.length + y.length ≤ sizeLine ∧ k (.str (x ++ y))
  | .tup xs, .tup ys, k => pureL xs = true ∧ pureL ys = true ∧ xs.length + ys.length ≤ sizeLine ∧ k (.tup (xs ++ ys))
  | .lst xs, .lst ys, k => pureL xs = true ∧ pureL ys = true ∧ xs.length + ys.length ≤ sizeLine ∧ k (.lst (xs ++ ys))
  | _, _, _ => False
theorem od_addT : OpD X (binaryOp .Add) dAddT := by
  obtain ⟨r0, o0, g0⟩ := od_add (X := X)
  refine ⟨_, OpR.or op_cat0 o0, fun H a b x y F1 F2 k Q ra rb g q => ?_⟩
  match a, b, ra, rb, g with
  | .int i, .int j, ra, rb, g => exact .inr (g0 H _ _ x y F1 F2 k Q ra rb g q)
  | .str i, .str j, ra, rb, g => exact .inr (g0 H _ _ x y F1 F2 k Q ra rb g q)
  | .lst i, .lst j, ra, rb, g => exact .inr (g0 H _ _ x y F1 F2 k Q ra rb g q)
  | .tup [], .tup ys, ra, rb, g =>
    cases ra with
    | @tup p _ _ _ e1 r1 =>
      cases r1
      cases rb with
      | @tup p' us _ _ e2 r2 => exact .inl ⟨p, p', us, rfl, rfl, .of e1, .of e2, q _ _ _ _ (.flat (.tup e2 (r2.pure g.2.1).2)) g.2.2.2⟩
  | .tup (d :: xs), .tup ys, ra, rb, g => exact .inr (g0 H _ _ x y F1 F2 k Q ra rb ⟨g.1, g.2.1, by simp, g.2.2⟩ q)
def dSlT : D → Option Int → Option Int → (D → Prop) → Prop
  | .lst xs, lo, hi, k => pureL xs = true ∧ k (.lst (cutD xs lo hi))
  | .kls xs, lo, hi, k => pureL xs = true ∧ k (.lst (cutD xs lo hi))
  | .tup xs, lo, hi, k => pureL xs = true ∧ k (.tup (cutD xs lo hi))
  | _, _, _, _ => False
theorem sl_anyT : SlR X (fun x lo hi H Q => (rSlL X.K x lo hi H Q ∨ rSlT X.K x lo hi H Q) ∨ rSlW X.K x lo hi H Q) := SlR.or sl_any sl_tupW
def wSlT (w : WE) (wl wh : WO) : WE := fun ρ Q => w ρ fun d ρ1 => wl ρ1 fun lo ρ2 => wh ρ2 fun hi ρ3 => dSlT d lo hi fun d' => Q d' ρ3
theorem cut_whole {xs : List D} {lo hi : Option Int} (h : HT.sIx xs.length 0 lo = 0 ∧ HT.sIx xs.length xs.length hi = xs.length) : cutD xs lo hi = xs := by
  unfold cutD
  rw [h.1, h.2]
  simp
theorem ev_slT {lo hi : Option Expr} {wl wh : WO} (he : EV X T m1 o1 e w) (hl : OV X T m2 lo wl) (hh : OV X T m3 hi wh) (hc : o1 = true ∨ (m2 || m3) = false := by first | exact .inl rfl | exact .inr rfl) :
    EV X T (m1 || (m2 || m3)) true (.Subscript e (.Slice lo hi none p2) pos) (wSlT w wl wh) := by
  obtain ⟨te, pe, ge⟩ := he
  obtain ⟨tl, pl, gl⟩ := hl
  obtain ⟨th, ph, gh⟩ := hh
  refine ⟨_, pe_slice sl_anyT pe pl ph, fun z R σ H W ρ Q Q' s hw k => ?_⟩
  refine ge z R σ H W ρ _ _ s hw fun v H1 W1 d ρ1 F p q => ?_
  refine gl z R σ H1 W1 ρ1 _ _ p.sr q fun lo H2 W2 ρ2 p2 q2 => ?_
  refine gh z R σ H2 W2 ρ2 _ _ p2.sr q2 fun hi H3 W3 ρ3 p3 q3 => ?_
  have pp := p2.seq p3
  have r3 : Rep X.K H3 d v F := by
    rcases hc with hc | hc
    · exact p.rep.keep pp.fr fun a h => ((p.own hc).2 a h).2
    · exact p.rep.same (pp.calm hc).1
  have fin : ∀ ad d' v' Fn, Fin X.K H3 ad d' v' Fn → Q d' ρ3 → Q' v' ad := fun H' d' v' F' fi hq => by
    refine k v' H' W3 d' ρ3 F' (Post.fin p3.sr (p.fr.trans pp.fr) (fun h => ?_) fi.same fi.rep fi.nd fi.new) hq
    rw [Bool.or_eq_false_iff] at h
    obtain ⟨a1, a2, a3⟩ := p.calm h.1
    obtain ⟨b1, b2, b3⟩ := pp.calm h.2
    exact ⟨a1.trans b1, b2.trans a2, b3.trans a3⟩
  match d, r3, q3 with
  | .lst ds, r3, q3 =>
    cases r3 with
    | @lst a xs _ F e1 r9 =>
      obtain ⟨hp, hq⟩ := q3
      obtain ⟨_, r9⟩ := r9.pure hp
      exact .inl (.inl ⟨a, xs, rfl, .of e1, fun l hl => fin _ _ _ [l] ⟨same_upd hl, .lst upd_same (r9.cut.same (same_upd hl)), by simp, fun b m => by rw [List.mem_singleton.mp m]; exact hl⟩ hq⟩)
  | .kls ds, r3, q3 =>
    cases r3 with
    | @kls a xs _ e1 r9 =>
      obtain ⟨hp, hq⟩ := q3
      exact .inl (.inl ⟨a, xs, rfl, e1.sq, fun l hl => fin _ _ _ [l] ⟨same_upd hl, .lst upd_same (r9.cut.same (same_upd hl)), by simp, fun b m => by rw [List.mem_singleton.mp m]; exact hl⟩ hq⟩)
  | .tup ds, r3, q3 =>
    cases r3 with
    | @tup a xs _ F e1 r9 =>
      obtain ⟨hp, hq⟩ := q3
      obtain ⟨_, r9⟩ := r9.pure hp
      by_cases hn : HT.sIx ds.length 0 lo = 0 ∧ HT.sIx ds.length ds.length hi = ds.length
      · rw [cut_whole hn] at hq
        exact .inr ⟨a, xs, rfl, .of e1, by rw [r9.length]; exact hn, fin _ _ _ [] (.flat (.tup e1 r9)) hq⟩
      · exact .inl (.inr ⟨a, xs, rfl, .of e1, by rw [r9.length]; exact hn, fun l hl => fin _ _ _ [] ⟨same_upd hl, .tup upd_same (r9.cut.same (same_upd hl)), by simp, fun b m => nomatch m⟩ hq⟩)
end
end PV
set_option Elab.async false
set_option linter.all false
set_option maxRecDepth 100000
set_option maxHeartbeats 4000000
namespace PV
open PySem PySem.Spec L2
section
variable {κ : Type} [DecidableEq κ]
end
section
variable {K : PySem.W.Frag} {H : Hp}
end
section
variable {X : Cx} {T : Tg} {m o m0 m1 m2 m3 o1 o2 : Bool} {e a b : Expr} {w wa wb we : WE} {pos p2 p : Pos} {es : List Expr} {wr : WA} {x y : Str} {wt : WT} {ws : WS}
def dikOf (d : D) (k : List (Key × D) → Prop) : Prop := match d with
  | .dik kvs => k kvs
  | _ => False
end
end PV
set_option Elab.async false
set_option linter.all false
set_option maxRecDepth 100000
set_option maxHeartbeats 4000000
namespace PV
open PySem PySem.Spec L2
section
variable {X : Cx} {T : Tg} {m o m0 m1 m2 m3 o1 o2 : Bool} {e a b : Expr} {w wa wb we : WE} {pos p2 p : Pos} {es : List Expr} {wr : WA} {x y : Str} {wt : WT} {ws : WS}
end
end PV
set_option Elab.async false
set_option linter.all false
set_option maxRecDepth 100000
set_option maxHeartbeats 4000000
namespace PV
open PySem PySem.Spec L2
section
variable {X : Cx} {T : Tg} {m o m0 m1 m2 m3 o1 o2 : Bool} {e a b : Expr} {w wa wb we : WE} {pos p2 p : Pos} {es : List Expr} {wr : WA} {x y : Str} {wt : WT} {ws : WS}
end
end PV
set_option Elab.async false
set_option linter.all false
set_option maxRecDepth 100000
set_option maxHeartbeats 4000000
namespace PV
open PySem PySem.Spec L2
section
variable {X : Cx} {T : Tg} {m o m0 m1 m2 m3 o1 o2 : Bool} {e a b : Expr} {w wa wb we : WE} {pos p2 p : Pos} {es : List Expr} {wr : WA} {x y : Str} {wt : WT} {ws : WS}
end
end PV
set_option Elab.async false
set_option linter.all false
set_option maxRecDepth 100000
set_option maxHeartbeats 4000000
namespace PV
open PySem PySem.Spec L2
section
variable {X : Cx} {T : Tg} {m o : Bool}
end
end PV
set_option Elab.async false
set_option linter.all false
set_option maxRecDepth 100000
set_option maxHeartbeats 4000000
namespace PV
open PySem PySem.Spec L2
section
variable {X : Cx} {T : Tg} {m o m0 m1 m2 m3 o1 o2 : Bool} {e a b : Expr} {w wa wb we : WE} {pos p2 p : Pos} {es : List Expr} {wr : WA} {x y : Str} {wt : WT} {ws : WS}
end
end PV
set_option Elab.async false
set_option linter.all false
set_option maxRecDepth 100000
set_option maxHeartbeats 4000000
namespace PV
open PySem PySem.Spec L2
section
variable {X : Cx} {T : Tg} {m o m0 m1 m2 m3 me o1 o2 : Bool} {e a b : Expr} {w wa wb we : WE} {pos p2 p : Pos} {es : List Expr} {wr : WA} {x y : Str} {wt : WT} {ws : WS}
def TB (q : Nat) : Tg := ⟨fun i => i == q, [q]⟩
end
end PV
set_option Elab.async false
set_option linter.all false
set_option maxRecDepth 100000
set_option maxHeartbeats 4000000
namespace PV
open PySem PySem.Spec L2
open PyProof.Rows (envOfC)
section
variable {X : Cx} {T : Tg} {m o m0 m1 m2 m3 o1 o2 : Bool} {e a b : Expr} {w wa wb we : WE} {pos p2 p : Pos} {es : List Expr} {wr : WA} {x y : Str} {wt : WT} {ws : WS} {k : Nat} {ps : List Str}
def NotAt (σ : St) (i : Nat) (C : List Addr) : Prop := ∀ a, σ[i]? = some (some (.ref a)) → a ∉ C
theorem NotAt.app {σ : St} {i : Nat} {A C : List Addr} (h : NotAt σ i A) (h' : NotAt σ i C) : NotAt σ i (A ++ C) := fun a e m => (List.mem_append.mp m).elim (h a e) (h' a e)
end
section
variable {K : PySem.W.Frag} {x : Str} {qual : Str} {st : Stmt} {f : Addr} {fd : FuncData} {N ps : List Str} {T : Tg} {P : Program} {w : World} {mg : Str → Option Value} {base : Heap} {k : Nat} {ww : WS}
end
end PV
set_option Elab.async false
set_option linter.all false
set_option maxRecDepth 100000
set_option maxHeartbeats 4000000
namespace L2
open PySem PySem.Spec PyProof.Rows
section
variable {X : Cx} {es : List Expr} {t : TA} {pos : Pos}
def tLstF (t : TA) : TE := fun σ H Q => t σ H fun xs H1 => xs.length ≤ sizeLine ∧ ∀ p o, H1 p = none → Q (.ref p) (upd H1 p (.frz o (.lst xs)))
theorem pe_lstF (h : PA X es t) : PE X (.List es pos) (tLstF t) := by
  intro pins s σ H Q I hq
  refine wpAny_List_spliced (thn (h pos pins s σ H _ I hq) fun us s1 ⟨xs, H1, I1, r, z, q⟩ => ⟨by rw [← r.length]; exact z, ?_⟩)
  have hf : H1 s1.heap.objs.size = none := I1.hok.fresh (Nat.le_refl _)
  refine ⟨.ref s1.heap.objs.size, upd H1 s1.heap.objs.size (.frz { cls := .type "list", data := .seq us.toArray } (.lst xs)), I1.laid (t' := s1.toks) (fun b u e => Heap.get?_push_of_some _ e) (Nat.le_refl _) ?_, rfl, q _ _ hf⟩
  exact ⟨Heap.get?_push_size _ rfl, z, us, 0, r, Heap.get?_push_size _ rfl⟩
end
end L2
namespace PV
open PySem PySem.Spec L2
section
variable {X : Cx} {T : Tg} {m o m0 m1 m2 m3 me o1 o2 : Bool} {e a b : Expr} {w wa wb we : WE} {pos p2 p : Pos} {es : List Expr} {wr : WA} {x y : Str} {wt : WT} {ws : WS}
def dAll : GA
  | [.lst ds], k => ∃ bs : List Bool, ds = bs.map D.bl ∧ k (.bl (bs.all id))
  | _, _ => False
def wLstF (wr : WA) : WE := fun ρ Q => wr ρ fun ds ρ' => pureL ds = true ∧ ds.length ≤ sizeLine ∧ Q (.fls ds) ρ'
theorem ev_lstF (h : AV X T m o es wr) : EV X T m true (.List es pos) (wLstF wr) := by
  obtain ⟨ta, pa, ga⟩ := h
  refine ⟨_, pe_lstF pa, fun z R σ H W ρ Q Q' s hw k => ?_⟩
  refine ga z R σ H W ρ _ _ s hw fun vs H1 W1 ds ρ1 F p q => ?_
  obtain ⟨hp, hz, q⟩ := q
  obtain ⟨-, r⟩ := p.rep.pure hp
  exact ⟨by rw [p.rep.length]; exact hz, fun a ob ha => k _ _ W1 (.fls ds) ρ1 [] (Post.fin p.sr p.fr p.calm (same_upd ha) (.fls upd_same (r.same (same_upd ha))) List.nodup_nil (fun b m => nomatch m)) q⟩
def zipTD (xs ys : List D) : List D := (xs.zip ys).map fun p => .tup [p.1, p.2]
def zipTOf (ds : List D) (k : List D → Prop) : Prop := match ds with
  | [.tup xs, .tup ys] => pureL xs = true ∧ pureL ys = true ∧ k (zipTD xs ys)
  | _ => False
def blkE2 (ρ : Env) (d1 d2 : D) (ix : List Nat) : Env := some d1 :: some d2 :: ix.map (look ρ)
def two2 (d : D) (k : D → D → Prop) : Prop := match d with
  | .tup [a, b] => k a b
  | _ => False
def compI2 (ds : List D) (wt : WT) (we : WE) (ρ1 : Env) (ix : List Nat) (Q : D → Env → Prop) : Prop := ∃ I : Nat → List D → Prop, I 0 [] ∧
  (∀ i d ys, ds[i]? = some d → I i ys → ys.length < sizeLine ∧ two2 d fun d1 d2 => wt (blkE2 ρ1 d1 d2 ix) fun b _ => if b = true then we (blkE2 ρ1 d1 d2 ix) (fun y _ => I (i + 1) (ys ++ [y])) else I (i + 1) ys) ∧
  ∀ ys, I ds.length ys → ys.length ≤ sizeLine ∧ Q (.lst ys) ρ1
def wComp2 (wl : WL) (wt : WT) (we : WE) (ix : List Nat) : WE := fun ρ Q => wl ρ fun ds ρ1 => compI2 ds wt we ρ1 ix Q
def CompOk2 (X : Cx) (T : Tg) (m : Bool) (elt iter tg : Expr) (ts : List Str) (gt : TG) (scope : Scope) (ifs : List Expr) (ix : List Nat) (w : WE) : Prop :=
  ∃ (wi : TI) (tt : TT) (te : TE), PI X tg iter wi ∧ (∀ cl C s₀ H₀ fp, PIfs (cxBlk X scope cl C (bN2 X.N ts ix) s₀ H₀ fp) ifs tt) ∧ (∀ cl C s₀ H₀ fp, PE (cxBlk X scope cl C (bN2 X.N ts ix) s₀ H₀ fp) elt te) ∧
    ∀ (z : Nat → V) (R : Addr → Prop) (σ : St) (H : Hp) (W : Addr → Prop) (ρ : Env) (Q : D → Env → Prop) (Q' : VK), SR X.K T z R H W σ ρ → w ρ Q →
      (∀ v H' W' d ρ' F, Post X.K T z R m true H W σ ρ H' W' ρ' d v F → Q d ρ' → Q' v H') → tComp2 ts wi gt tt te ix σ H Q'
def g2 (K : PySem.W.Frag) : TG := gTup K 2 (gCons (gName 0) (gCons (gName 1) gNil))
theorem comp_ok2 {elt iter : Expr} {px py pt : Pos} {kt : Nat} {scope : Scope} {ifs : List Expr} {wl : WL} {pr : Bool} (ix : List Nat) (hi : IV X T m pr (.Tuple [.Name x px, .Name y py] kt pt) iter wl)
    (ht : ∀ cl C s₀ H₀ fp, CV (cxBlk X scope cl C (bN2 X.N [x, y] ix) s₀ H₀ fp) ifs wt) (he : ∀ cl C s₀ H₀ fp, EV (cxBlk X scope cl C (bN2 X.N [x, y] ix) s₀ H₀ fp) TR false true elt we) :
    CompOk2 X T m elt iter (.Tuple [.Name x px, .Name y py] kt pt) [x, y] (g2 X.K) scope ifs ix (wComp2 wl wt we ix) := by
  obtain ⟨wi, pi, gi⟩ := hi
  refine ⟨wi, fun σ H Q => ∀ cl C s₀ H₀ fp, Classical.choose (ht cl C s₀ H₀ fp) σ H Q, fun σ H Q => ∀ cl C s₀ H₀ fp, Classical.choose (he cl C s₀ H₀ fp) σ H Q, pi,
    fun cl C s₀ H₀ fp pins s σ H Q I h => (Classical.choose_spec (ht cl C s₀ H₀ fp)).1 pins s σ H Q I (h cl C s₀ H₀ fp), fun cl C s₀ H₀ fp pins s σ H Q I h => (Classical.choose_spec (he cl C s₀ H₀ fp)).1 pins s σ H Q I (h cl C s₀ H₀ fp), ?_⟩
  intro z R σ H W ρ Q Q' s hw k
  refine gi z R σ H W ρ _ _ s hw fun J H1 W1 ds ρ1 p jd q => ?_
  obtain ⟨I, h0, hI, hd⟩ := q
  refine ⟨fun i n ys H2 => n = ds.length - i ∧ i ≤ ds.length ∧ Same H1 H2 ∧ ∃ es F, Reps X.K H2 es ys F ∧ F.Nodup ∧ (∀ a ∈ F, H1 a = none) ∧ I i es, ds.length, ⟨by simp, Nat.zero_le _, Same.refl _, [], [], .nil, List.nodup_nil, (fun a m => (nomatch m)), h0⟩, ?_⟩
  rintro i n ys H2 ⟨rfl, hi, sm, es, F, re, nd, nw, i2⟩
  obtain ⟨j1, j2⟩ := jd i H2 (wz pr W1) (FrW.same _ sm)
  by_cases hlt : i < ds.length
  · have hdi : ds[i]? = some ds[i] := List.getElem?_eq_getElem hlt
    obtain ⟨hgo, hy⟩ := j2 _ hdi
    obtain ⟨hz, q1⟩ := hI i _ es hdi i2
    refine .inr ⟨hgo, by rw [re.length]; exact hz, fun v H3 yl o ol => ?_⟩
    obtain ⟨sm3, Fv, rv, _⟩ := hy v H3 yl
    generalize ds[i] = dd at q1 rv
    match dd, rv, q1 with
    | .tup [d1, d2], rv, q1 =>
      cases rv with
      | @tup av vs _ _ ev rr =>
        obtain ⟨v1, v2, F1, F2, rfl, r1, r2⟩ := rr.at2
        refine ⟨av, [v1, v2], rfl, .of ev, rfl, v1, [v2], rfl, v2, [], rfl, rfl, [some v1, some v2], ?_, rfl, ?_⟩
        · match o, ol with
          | [o1, o2], _ => rfl
        have srB : ∀ z', SR X.K TR z' (Any H3) H3 (fun _ => False) (((bS2 σ o ix).set 0 (some v1)).set 1 (some v2)) (blkE2 ρ1 d1 d2 ix) := fun z' => by
          have eS : ((bS2 σ o ix).set 0 (some v1)).set 1 (some v2) = bS2 σ [some v1, some v2] ix := by
            match o, ol with
            | [o1, o2], _ => rfl
          rw [eS]
          refine SR.readonly rfl (by simp [bS2, blkE2]) fun j d hj => ⟨rfl, ?_⟩
          match j with
          | 0 =>
            simp only [blkE2, look, Option.some.injEq] at hj
            subst hj
            exact ⟨v1, F1, rfl, r1⟩
          | 1 =>
            simp only [blkE2, look, Option.some.injEq] at hj
            subst hj
            exact ⟨v2, F2, rfl, r2⟩
          | j + 2 =>
            have hj' : look (ix.map (look ρ1)) j = some d := hj
            rw [look_map] at hj'
            cases hx : ix[j]? with
            | none => rw [hx] at hj'; cases hj'
            | some q =>
              rw [hx] at hj'
              obtain ⟨fp, s1⟩ := (p.sr.same sm).same sm3
              obtain ⟨u, hu, ru⟩ := s1.at_ q d hj'
              refine ⟨u, fp q, ?_, ru⟩
              show (ix.map fun i => (σ[i]?).getD none)[j]? = some (some u)
              rw [List.getElem?_map, hx]
              simp [hu]
        intro cl C s₀ H₀ fp
        refine (Classical.choose_spec (ht cl C s₀ H₀ fp)).2 (fun _ => .non) (Any H3) _ H3 (fun _ => False) (blkE2 ρ1 d1 d2 ix) _ _ (srB _) q1 fun bb H4 W4 ρ4 p4 q4 => ?_
        obtain ⟨sm4, hW4, hρ4⟩ := p4.calm rfl
        have re4 := ((re.same sm3).same sm4)
        cases bb with
        | false => exact ⟨ds.length - (i + 1), by omega, rfl, hlt, (sm.trans sm3).trans sm4, es, F, re4, nd, nw, q4⟩
        | true =>
          show if true = true then _ else _
          rw [if_pos rfl]
          intro cl C s₀ H₀ fp
          refine (Classical.choose_spec (he cl C s₀ H₀ fp)).2 (fun _ => .non) (Any H3) _ H4 W4 (blkE2 ρ1 d1 d2 ix) _ _ (hρ4 ▸ p4.sr) (by simpa using q4) fun u H5 W5 y ρ5 Fy p5 q5 => ?_
          obtain ⟨sm5, _, _⟩ := p5.calm rfl
          obtain ⟨ny, ky⟩ := p5.own rfl
          have sm15 : Same H1 H5 := ((sm.trans sm3).trans sm4).trans sm5
          refine ⟨ds.length - (i + 1), by omega, rfl, hlt, sm15, es ++ [y], F ++ Fy, (re4.same sm5).snoc p5.rep, nodup_ins nd ny fun a ha hf => ?_, fun a ha => ?_, q5⟩
          · obtain ⟨ob, e1, _⟩ := re4.dom a hf
            rw [(ky a ha).1] at e1; cases e1
          · rcases List.mem_append.mp ha with ha | ha
            · exact nw a ha
            · exact ((sm.trans sm3).trans sm4).free (ky a ha).1
  · have e : i = ds.length := by omega
    subst e
    obtain ⟨hz, q1⟩ := hd es i2
    refine .inl ⟨j1 (Nat.le_refl _), by rw [re.length]; exact hz, fun l hl => ?_⟩
    have hl1 : H1 l = none := sm.free hl
    refine k _ _ W1 (.lst es) ρ1 (l :: F) ⟨(p.sr.same sm).same (same_upd hl), (p.fr.trans (FrW.same W1 sm)).trans (FrW.same W1 (same_upd hl)), fun h => ⟨((p.calm h).1.trans sm).trans (same_upd hl), (p.calm h).2⟩, .lst upd_same (re.same (same_upd hl)), fun _ => ⟨List.nodup_cons.mpr ⟨fun h => ?_, nd⟩, fun b hb => ?_⟩⟩ q1
    · obtain ⟨ob, e1, _⟩ := re.dom l h
      rw [hl] at e1; cases e1
    · rcases List.mem_cons.mp hb with rfl | hb
      · exact ⟨p.fr.dom _ hl1, p.sr.nw hl1⟩
      · exact ⟨p.fr.dom _ (nw b hb), p.sr.nw (nw b hb)⟩
structure CompB2 (X : Cx) (scope : Scope) (x y : Str) (ix : List Nat) : Prop where
  B1 : CompB X scope x ix
  B2 : CompB X scope y ix
  nd : (bN2 X.N [x, y] ix).Nodup
theorem compB2_mk {scope : Scope} {ix : List Nat} (sc : Scope) (N : List Str) (h : (compB sc scope N x ix && compB sc scope N y ix && decide (bN2 N [x, y] ix).Nodup) = true) (h1 : X.env.scope = sc := by rfl) (h2 : X.N = N := by rfl) : CompB2 X scope x y ix := by
  simp only [Bool.and_eq_true, decide_eq_true_eq] at h
  exact ⟨compB_mk sc N h.1.1 h1 h2, compB_mk sc N h.1.2 h1 h2, by rw [h2]; exact h.2⟩
theorem pg2 {scope : Scope} {ix : List Nat} {px py pt : Pos} {kt : Nat} (B : CompB2 X scope x y ix) (hc : X.calm = true) (cl : List (Str × Addr)) (C : Addr) (s₀ : Shared) (H₀ : Hp) (fp : List Addr) :
    PG (cxBlk X scope cl C (bN2 X.N [x, y] ix) s₀ H₀ fp) (.Tuple [.Name x px, .Name y py] kt pt) (g2 X.K) := by
  have l1 : (cxBlk X scope cl C (bN2 X.N [x, y] ix) s₀ H₀ fp).env.scope.names.lookup x = some .local := lookup_relabel_local B.B1.B.lx
  have l2 : (cxBlk X scope cl C (bN2 X.N [x, y] ix) s₀ H₀ fp).env.scope.names.lookup y = some .local := lookup_relabel_local B.B2.B.lx
  exact pg_tup hc (pgs_cons (pg_name (i := 0) B.nd rfl (.inl l1) (.inr l1)) (pgs_cons (pg_name (i := 1) B.nd rfl (.inl l2) (.inr l2)) pgs_nil))
theorem ev_comp2 {elt iter : Expr} {px py pt : Pos} {kt : Nat} {scope : Scope} {ifs : List Expr} {ix : List Nat} (h : CompOk2 X T m elt iter (.Tuple [.Name x px, .Name y py] kt pt) [x, y] (g2 X.K) scope ifs ix w) (B : CompB2 X scope x y ix) (hc : X.calm = true := by rfl)
    (hs : ∀ x, foldedSetIterable iter X.env x = pure x := by intro _; rfl) : EV X T m true (.ListComp elt [⟨.Tuple [.Name x px, .Name y py] kt pt, iter, ifs, 0⟩] scope pos) w := by
  obtain ⟨wi, tt, te, h1, h2, h3, h4⟩ := h
  exact ⟨_, pe_comp2 ix hc B.B1.B B.B1.hix B.nd h1 (pg2 B hc) h2 h3 hs, h4⟩
end
end PV
set_option Elab.async false
set_option linter.all false
set_option maxRecDepth 100000
set_option maxHeartbeats 4000000
namespace PV
open PySem PySem.Spec L2
open Builtin.Str (glued tooLong)
section
variable {X : Cx} {T : Tg} {m o m0 m1 m2 m3 me o1 o2 : Bool} {e a b : Expr} {w wa wb we : WE} {pos p2 p : Pos} {es : List Expr} {wr : WA} {x y : Str} {wt : WT} {ws : WS}
end
end PV
set_option Elab.async false
set_option linter.all false
set_option maxRecDepth 100000
set_option maxHeartbeats 4000000
namespace PV
open PySem PySem.Spec L2
open Builtin.Str (glued tooLong subAt)
section
variable {X : Cx} {T : Tg} {m o m0 m1 m2 m3 m4 me o1 o2 : Bool} {e a b : Expr} {w wa wb we : WE} {pos p2 p : Pos} {es : List Expr} {wr : WA} {x y : Str} {wt : WT} {ws : WS}
end
end PV
set_option Elab.async false
set_option linter.all false
set_option maxRecDepth 100000
set_option maxHeartbeats 4000000
namespace PV
open PySem PySem.Spec L2
section
variable {X : Cx} {T : Tg} {m o m0 m1 m2 m3 o1 o2 : Bool} {e a b : Expr} {w wa wb we : WE} {pos p2 p : Pos} {es : List Expr} {wr : WA} {x y : Str}
end
end PV
set_option Elab.async false
set_option linter.all false
set_option maxRecDepth 100000
set_option maxHeartbeats 4000000
namespace PV
open PySem PySem.Spec L2 PyProof.Rows
section
variable {X : Cx} {T : Tg} {m o m0 m1 m2 m3 me o1 o2 : Bool} {e a b c : Expr} {w wa wb we : WE} {pos p2 p : Pos} {es : List Expr} {wr : WA} {x y : Str} {wt : WT} {ws : WS} {k : Nat} {ps : List Str} {tg : Expr}
def dMulB : G2
  | .int i, .int j, k => i.natAbs < 2 ^ 2000 ∧ j.natAbs < 2 ^ 2000 ∧ k (.int (i * j))
  | _, _, _ => False
def wCallF (g : GI) (wr : WA) : WE := fun ρ Q => wr ρ fun ds ρ1 => match ds with
  | d0 :: post => flatD d0 = true ∧ pureL post = true ∧ g (d0 :: post) fun d _ => Q d ρ1
  | [] => False
theorem ev_callF {g : GI} (C : Cal X.prog X.w X.K X.mg X.base x k ps (spI X.K 0 g)) (hr : Room k X.A) (ha : AV X T false true (e :: es) wr) (hg : Gl X x := by rfl)
    (hdb : (x == ("__debug__" : Str)) = false := by decide) (he : starEach (e :: es) X.env = (false, eval e X.env) :: starEach es X.env := by rfl) (hpl : (backTo pos (starEach es X.env)).any (·.1) = false := by rfl) :
    EV X T false true (.Call (.Name x p) (e :: es) [] pos) (wCallF g wr) := by
  obtain ⟨f, fd, F, hm, hk, hb⟩ := C
  obtain ⟨ta, pa, ga⟩ := ha
  refine ⟨_, pe_call F hr hg hm hk hb .nil pass0 pa hdb he hpl, fun z R σ H W ρ Q Q' s hw k => ?_⟩
  refine ga z R σ H W ρ _ _ s hw fun vs H1 W1 ds ρ1 F p q => ?_
  obtain ⟨sm, rfl, rfl⟩ := p.calm rfl
  obtain ⟨nd, own⟩ := p.own rfl
  have rp := p.rep
  match ds, rp, q with
  | d0 :: post, rp, q =>
    obtain ⟨hf, hp, q⟩ := q
    cases rp with
    | @cons _ v0 _ vs F0 G r0 rr =>
      obtain ⟨a, rfl, hF⟩ := r0.flat1 hf
      obtain ⟨hE, rr⟩ := rr.pure hp
      subst hF hE
      refine ⟨d0 :: post, a, _, by rw [List.append_nil]; exact .cons (G := []) r0 rr, rfl, q, fun v H' d d' F' rd' rd nd new kp hk => ?_⟩
      have ha : H a = none := (own a (by simp)).1
      have same : Same H H' := fun b ob eb => kp b ob (sm b ob eb) fun z => by rw [z, ha] at eb; cases eb
      refine k v H' W1 d ρ1 F' (Post.fin s (FrW.refl H W1) (fun _ => ⟨Same.refl H, rfl, rfl⟩) same rd nd fun b hb => ?_) hk
      cases hq : H b with
      | none => rfl
      | some ob => have := sm b ob hq; rw [new b hb] at this; cases this
def rPopT : V → List V → Hp → VK → Prop := fun x vs H Q => ∃ a b kvs k v, x = .ref a ∧ vs = [.ref b] ∧ H a = some (.dT kvs) ∧ H b = some (.tup (k.map kV)) ∧ valV kvs k = some v ∧ Q v (upd H a (.dT (dropK kvs k)))
theorem mt_popT (hu : X.A.units + 1 < cLine) : MtM X "dict.pop" rPopT := by
  intro pins s σ H x vs v us Q I rx rv h
  obtain ⟨a, b, kvs, k, y, rfl, rfl, hH, hb, hv, q⟩ := h
  cases rx
  obtain ⟨u, rfl, ru⟩ := Vals.one rv
  cases ru
  exact d_popT hu I hH hb hv fun w' s' I' rw' => ⟨y, _, I', rw', q⟩
def gPopT : GM
  | .dit kvs, [.tup xs], k => oget (keysOf xs) fun ks => oget (valD kvs ks) fun d => d.pure = true ∧ k d (.dit (dropD kvs ks))
  | _, _, _ => False
theorem md_popT (hu : X.A.units + 1 < cLine) : MtD X "dict.pop" gPopT := by
  refine ⟨_, mt_popT hu, fun H d ds v xs F G k Q r nd rs ndG dis g q => ?_⟩
  match d, ds, r, rs, g with
  | .dit es, [.tup ys], r, rs, g =>
    obtain ⟨u, rfl, rd⟩ := rs.at1
    obtain ⟨ks, hks, g⟩ := oget_some g
    obtain ⟨d, hd, hp, g⟩ := oget_some g
    cases r with
    | @dit l kvs _ F e r9 =>
      cases rd with
      | @tup b us _ _ eb rb =>
        have hkv := rb.keys hks
        rcases r9.val ks with ⟨q1, _⟩ | ⟨d', v', B, q1, q2, q3, q4⟩
        · rw [q1] at hd; cases hd
        · rw [q1] at hd
          cases hd
          obtain ⟨hB, q3⟩ := q3.pure hp
          obtain ⟨nl, nd⟩ := List.nodup_cons.mp nd
          obtain ⟨G', rG, sG⟩ := r9.drop (k := ks)
          have nG : l ∉ G' := fun h => nl (sG.subset h)
          refine ⟨l, b, kvs, ks, v', rfl, rfl, e, by rw [← hkv]; exact eb, q2, ?_⟩
          refine q v' l _ d _ (l :: G') List.mem_cons_self rfl (.dit upd_same (rG.upd e rfl nG)) (List.nodup_cons.mpr ⟨nG, nd.sublist sG⟩) (fun a ha => ?_) (q3.upd e rfl (fun h => nomatch h)) g
          rcases List.mem_cons.mp ha with rfl | ha
          · exact .inl List.mem_cons_self
          · exact .inl (List.mem_cons_of_mem _ (sG.subset ha))
def rngS (lo c : Int) (n : Nat) : List D := (List.range n).map fun (i : Nat) => .int (lo + (i : Int) * c)
theorem rngS_length {lo c : Int} {n : Nat} : (rngS lo c n).length = n := by simp [rngS]
theorem rngS_get {lo c : Int} {n i : Nat} {d : D} (h : (rngS lo c n)[i]? = some d) : i < n ∧ d = .int (lo + (i : Int) * c) := by
  unfold rngS at h
  rw [List.getElem?_map] at h
  obtain ⟨j, hj, rfl⟩ := Option.map_eq_some_iff.mp h
  obtain ⟨h1, h2⟩ := List.getElem?_eq_some_iff.mp hj
  rw [List.length_range] at h1
  rw [List.getElem_range] at h2
  subst h2
  exact ⟨h1, rfl⟩
theorem pure_rngS {lo c : Int} {n : Nat} : pureL (rngS lo c n) = true := pureL_iff.mpr fun d hd => by
  obtain ⟨i, _, rfl⟩ := List.mem_map.mp hd
  rfl
theorem jd_rangeS {K : PySem.W.Frag} {H : Hp} {W : Addr → Prop} {lo c : Int} {n : Nat} : JD K (ItrS lo c n) H W (rngS lo c n) := fun i H1 W1 fr => by
  refine ⟨fun h => ?_, fun d hd => ?_⟩
  · rw [rngS_length] at h; exact h
  · obtain ⟨h1, rfl⟩ := rngS_get hd
    refine ⟨h1, fun v H2 y => ?_⟩
    obtain ⟨rfl, rfl⟩ := y
    exact ⟨Same.refl _, [], .int _, fun a m => nomatch m⟩
def wRng3 (wr : WA) : WL := fun ρ Q => wr ρ fun ds ρ' => match ds with
  | [.int i, .int j, .int c] => (-(2 ^ 60) ≤ i ∧ i < 2 ^ 60 ∧ -(2 ^ 60) ≤ j ∧ j < 2 ^ 60) ∧ (c = 2 ∨ c = 3) ∧ Q (rngS i c (stepN i j c)) ρ'
  | _ => False
theorem iv_range3 (hm : X.mg "range" = none) (ha : AV X T m o [a, b, c] wr) (hg : Gl X "range" := by rfl) (hs : starEach [a, b, c] X.env = [(false, eval a X.env), (false, eval b X.env), (false, eval c X.env)] := by rfl) (hs2 : starEach [b, c] X.env = [(false, eval b X.env), (false, eval c X.env)] := by rfl) : IV X T m true tg (.Call (.Name "range" p) [a, b, c] [] pos) (wRng3 wr) := by
  obtain ⟨ta, pa, ga⟩ := ha
  refine ⟨_, pi_range3 hg hm pa hs hs2, fun z R σ H W ρ Q RR s hw k => ?_⟩
  refine ga z R σ H W ρ _ _ s hw fun vs H1 W1 ds ρ1 F p q => ?_
  match ds, p, q with
  | [.int i, .int j, .int c], p, q =>
    have rp := p.rep
    cases rp with
    | cons r1 rp =>
      cases rp with
      | cons r2 rp =>
        cases rp with
        | cons r3 rp =>
          cases rp
          cases r1; cases r2; cases r3
          exact ⟨i, j, c, rfl, q.1, q.2.1, k _ H1 W1 _ ρ1 ⟨p.sr, p.fr, p.calm⟩ jd_rangeS q.2.2⟩
end
section
variable {i j : Int} {k : D → Prop} {kk : D → D → Prop} {kvs : List (List Key × D)} {xs : List D}
theorem sz0 : (0 ≤ sizeLine) = True := propext ⟨fun _ => trivial, fun _ => by decide⟩
theorem sz2 : (2 ≤ sizeLine) = True := propext ⟨fun _ => trivial, fun _ => by decide⟩
theorem sz3 : (3 ≤ sizeLine) = True := propext ⟨fun _ => trivial, fun _ => by decide⟩
theorem sz4 : (4 ≤ sizeLine) = True := propext ⟨fun _ => trivial, fun _ => by decide⟩
theorem sz5 : (5 ≤ sizeLine) = True := propext ⟨fun _ => trivial, fun _ => by decide⟩
theorem r8_inT {n : Bool} : dIn n (.int i) (.tup xs) k = oget (inD (.int i) xs) fun b => k (.bl (xor n b)) := rfl
def cfOf (g : GI) (ds : List D) (Q : D → Prop) : Prop := match ds with
  | d0 :: post => flatD d0 = true ∧ pureL post = true ∧ g (d0 :: post) fun d _ => Q d
  | [] => False
theorem r8_callF {g : GI} {wr : WA} {ρ : Env} {Q : D → Env → Prop} : wCallF g wr ρ Q = wr ρ fun ds ρ1 => cfOf g ds fun d => Q d ρ1 := by
  unfold wCallF cfOf
  rfl
def rng3Of (ds : List D) (k : List D → Prop) : Prop := match ds with
  | [.int i, .int j, .int c] => (-(2 ^ 60) ≤ i ∧ i < 2 ^ 60 ∧ -(2 ^ 60) ≤ j ∧ j < 2 ^ 60) ∧ (c = 2 ∨ c = 3) ∧ k (rngS i c (stepN i j c))
  | _ => False
theorem r8_rng3 {wr : WA} {ρ : Env} {Q : List D → Env → Prop} : wRng3 wr ρ Q = wr ρ fun ds ρ' => rng3Of ds fun l => Q l ρ' := rfl
theorem r8_rng3I {i j c : Int} {k : List D → Prop} : rng3Of [.int i, .int j, .int c] k = ((-(2 ^ 60) ≤ i ∧ i < 2 ^ 60 ∧ -(2 ^ 60) ≤ j ∧ j < 2 ^ 60) ∧ (c = 2 ∨ c = 3) ∧ k (rngS i c (stepN i j c))) := rfl
theorem r8_cf {g : GI} {d0 : D} {post : List D} {Q : D → Prop} : cfOf g (d0 :: post) Q = (flatD d0 = true ∧ pureL post = true ∧ g (d0 :: post) fun d _ => Q d) := rfl
end
end PV
set_option Elab.async false
set_option linter.all false
set_option maxRecDepth 100000
set_option maxHeartbeats 4000000
namespace L2
open PySem PySem.Spec PyProof.Rows
section
variable {X : Cx} {e : Expr} {te : TE}
end
end L2
namespace PV
open PySem PySem.Spec L2 PyProof.Rows
section
variable {X : Cx} {T : Tg} {m o : Bool} {e : Expr} {w : WE} {tg : Expr}
end
end PV
set_option Elab.async false
set_option linter.all false
set_option maxRecDepth 100000
set_option maxHeartbeats 4000000
namespace PV
open PySem PySem.Spec L2
open PyProof.Rows (envOfC)
section
variable {X : Cx} {T : Tg} {m : Bool} {w : WE} {pos : Pos} {x : Str}
end
end PV
set_option Elab.async false
set_option linter.all false
set_option maxRecDepth 100000
set_option maxHeartbeats 4000000
namespace PV
open PySem PySem.Spec L2
section
variable {X : Cx} {T : Tg} {m o m0 m1 m2 m3 o1 o2 : Bool} {e a b : Expr} {w wa wb we : WE} {pos p2 p : Pos} {es : List Expr} {wr : WA} {x y : Str} {wt : WT} {ws : WS}
theorem RepT.get {K : PySem.W.Frag} {H : Hp} : ∀ {ds : List (List Key × D)} {xs : List (List Key × V)} {F : List Addr} {i : Nat} {k : List Key} {v : V}, RepT K H ds xs F → xs[i]? = some (k, v) → ∃ d B, ds[i]? = some (k, d) ∧ Rep K H d v B ∧ B.Sublist F
  | [], _, _, _, _, _, r, h => by cases r; simp at h
  | d :: ds, _, _, i, _, _, r, h => by
    cases r with
    | @cons j d v _ vs F G p r =>
      cases i with
      | zero =>
        simp at h
        obtain ⟨rfl, rfl⟩ := h
        exact ⟨d, F, rfl, p, List.sublist_append_left _ _⟩
      | succ i =>
        obtain ⟨d', B, h1, h2, h3⟩ := RepT.get r (i := i) (by simpa using h)
        exact ⟨d', B, by simpa using h1, h2, h3.trans (List.sublist_append_right _ _)⟩
end
end PV
set_option Elab.async false
set_option linter.all false
set_option maxRecDepth 100000
set_option maxHeartbeats 4000000
namespace PV
open PySem PySem.Spec L2
section
variable {X : Cx} {T : Tg} {m o : Bool} {a : Expr} {pos p2 p : Pos} {wr : WA} {x : Str}
theorem Reps.back0 {K : PySem.W.Frag} {H : Hp} {ds : List D} {xs : List V} {F : List Addr} (r : Reps K H ds xs F) : F = [] → Reps K H ds.reverse xs.reverse [] := by
  induction r using Reps.rec (motive_1 := fun _ _ _ _ => True) (motive_3 := fun _ _ _ _ => True) (motive_4 := fun _ _ _ _ => True) with
  | nil => exact fun _ => .nil
  | cons h r ih1 ih2 =>
    intro e
    obtain ⟨rfl, rfl⟩ := List.append_eq_nil_iff.mp e
    rw [List.reverse_cons, List.reverse_cons]
    exact Reps.append (F := []) (G := []) (ih2 rfl) (Reps.one h)
  | _ => trivial
theorem Reps.back {K : PySem.W.Frag} {H : Hp} {ds : List D} {xs : List V} (r : Reps K H ds xs []) : Reps K H ds.reverse xs.reverse [] := r.back0 rfl
end
end PV
set_option Elab.async false
set_option linter.all false
set_option maxRecDepth 100000
set_option maxHeartbeats 4000000
namespace PV
open PySem PySem.Spec L2
theorem atI_ofNat {α : Type} (xs : List α) (j : Nat) : L2.atI xs (j : Int) = xs[j]? := by
  unfold L2.atI ixN
  rw [if_pos (by omega)]
  by_cases h : j < xs.length
  · rw [if_pos (by omega)]; simp
  · rw [if_neg (by omega)]; simp; omega
theorem atI_0 {α : Type} (xs : List α) : L2.atI xs 0 = xs[0]? := atI_ofNat xs 0
theorem atI_1 {α : Type} (xs : List α) : L2.atI xs 1 = xs[1]? := atI_ofNat xs 1
theorem atI_2 {α : Type} (xs : List α) : L2.atI xs 2 = xs[2]? := atI_ofNat xs 2
theorem ixN_ofNat {n j : Nat} (h : j < n) : ixN n (j : Int) = some j := by
  unfold ixN
  rw [if_pos (by omega), if_pos (by omega)]; simp
theorem ixN_0 {n : Nat} (h : 0 < n) : ixN n 0 = some 0 := ixN_ofNat h
theorem ixN_1 {n : Nat} (h : 1 < n) : ixN n 1 = some 1 := ixN_ofNat h
theorem seqIx_ofNat {n j : Nat} (h : j < n) : seqIndex? (j : Int) n = some j := (ixN_seq (ixN_ofNat h)).1
theorem seqIx_0 {n : Nat} (h : 0 < n) : seqIndex? 0 n = some 0 := seqIx_ofNat h
theorem oget_s {α : Type} {d : α} {k : α → Prop} : oget (some d) k = k d := rfl
theorem r_var {i : Nat} {ρ : Env} {Q : D → Env → Prop} : wVar i ρ Q = oget (look ρ i) fun d => Q d ρ := by
  unfold wVar oget
  cases look ρ i <;> rfl
section
variable {i j : Int} {x y : Str} {xs ys : List D} {k : D → Prop} {b c : Bool} {d e : D} {kvs : List (Key × D)} {kts : List (List Key × D)}
theorem r_sub : dSub (.int i) (.int j) k = k (.int (i - j)) := rfl
theorem r_mul : dMul (.int i) (.int j) k = (CMul i j ∧ k (.int (i * j))) := rfl
theorem r_mulL : dMul (.lst xs) (.int j) k = (pureL xs = true ∧ -(2 ^ 63) ≤ j ∧ j < 2 ^ 63 ∧ xs.length * j.toNat ≤ sizeLine ∧ k (.lst (List.replicate j.toNat xs).flatten)) := rfl
theorem r_div : dDiv (.int i) (.int j) k = ((0 < j ∧ j < 1073741824 ∧ k (.int (i / j))) ∨ (j < 0 ∧ j.natAbs < 1073741824 ∧ k (.int (i.fdiv j)))) := rfl
theorem r_mod : dMod (.int i) (.int j) k = ((0 < j ∧ k (.int (i % j))) ∨ (j < 0 ∧ k (.int (i.fmod j)))) := rfl
theorem r_pow : dPow (.int i) (.int j) k = (CPow i j ∧ k (.int (i ^ j.toNat))) := rfl
theorem r_eqI : dEq (.int i) (.int j) k = k (.bl (decide (i = j))) := rfl
theorem r_neT : dNe (.tup xs) d k = (eqOk 9 (.tup xs) = true ∧ eqOk 9 d = true ∧ (.tup xs = d → k (.bl false)) ∧ (.tup xs ≠ d → k (.bl true))) := by cases d <;> rfl
theorem r_cmp {f : Int → Int → Bool} : dCmp f (.int i) (.int j) k = k (.bl (f i j)) := rfl
theorem r_ixL : dIx (.lst xs) (.int i) k = oget (L2.atI xs i) k := rfl
theorem r_ixT : dIx (.tup xs) (.int i) k = oget (L2.atI xs i) k := rfl
theorem r_ixK : dIx (.kls xs) (.int i) k = oget (L2.atI xs i) k := rfl
theorem r_ixDi : dIx (.dik kvs) (.int i) k = oget (valD kvs (.inl i)) k := rfl
theorem r_lenL : dLen [.lst xs] k = k (.int xs.length) := rfl
theorem r_lenT : dLen [.tup xs] k = k (.int xs.length) := rfl
theorem r_lenK : dLen [.kls xs] k = k (.int xs.length) := rfl
theorem r_lenD : dLen [.dik kvs] k = k (.int kvs.length) := rfl
theorem r_intB : dInt [.bl b] k = k (.int (if b then 1 else 0)) := rfl
theorem r_min : dMin2 [.int i, .int j] k = k (.int (if j < i then j else i)) := rfl
theorem r_tupL : dTuple [.lst xs] k = (pureL xs = true ∧ k (.tup xs)) := rfl
theorem r_range : dRange [.int i] k = (0 ≤ i ∧ i ≤ 1000 ∧ k (.lst (rngD 0 i.toNat))) := rfl
theorem r_setL : dSet (.lst xs) (.int i) d k = oget (ixN xs.length i) fun n => k (.lst (xs.set n d)) := rfl
theorem r_setDi : dSet (.dik kvs) (.int i) d k = (kvs.length < sizeLine ∧ k (.dik (putD kvs (.inl i) d))) := rfl
variable {kk : D → D → Prop}
theorem r_popAt : gPopAt (.lst xs) [.int i] kk = (-(2 ^ 63) ≤ i ∧ i < 2 ^ 63 ∧ oget (seqIndex? i xs.length) fun j => oget xs[j]? fun d => d.pure = true ∧ kk d (.lst (xs.eraseIdx j))) := rfl
variable {ρ : Env} {w : WE} {QE : D → Env → Prop} {QL : List D → Env → Prop} {QB : Bool → Env → Prop}
end
section
variable {i j : Int} {k : D → Prop}
theorem r_divP (h : 0 < j) (h2 : j < 1073741824) : dDiv (.int i) (.int j) k = k (.int (i / j)) := by
  rw [r_div]
  apply propext
  exact ⟨fun q => q.elim (fun z => z.2.2) (fun z => absurd z.1 (by omega)), fun q => .inl ⟨h, h2, q⟩⟩
theorem r_modP (h : 0 < j) : dMod (.int i) (.int j) k = k (.int (i % j)) := by
  rw [r_mod]
  apply propext
  exact ⟨fun q => q.elim (fun z => z.2) (fun z => absurd z.1 (by omega)), fun q => .inl ⟨h, q⟩⟩
theorem r_mulA (h : -18446744073709551616 < i) (h2 : i < 18446744073709551616) : dMul (.int i) (.int j) k = k (.int (i * j)) := by
  rw [r_mul]
  exact propext ⟨fun q => q.2, fun q => ⟨.inl ⟨by omega, by omega⟩, q⟩⟩
theorem r_mulB (h : -18446744073709551616 < j) (h2 : j < 18446744073709551616) : dMul (.int i) (.int j) k = k (.int (i * j)) := by
  rw [r_mul]
  exact propext ⟨fun q => q.2, fun q => ⟨.inr ⟨by omega, by omega⟩, q⟩⟩
theorem r_powP (h : 0 ≤ j) (h2 : j ≤ 1000000) (h3 : -18446744073709551616 < i) (h4 : i < 18446744073709551616) : dPow (.int i) (.int j) k = k (.int (i ^ j.toNat)) := by
  rw [r_pow]
  exact propext ⟨fun q => q.2, fun q => ⟨⟨h, h2, by omega⟩, q⟩⟩
end
def blOf (d : D) (k : Bool → Prop) : Prop := match d with
  | .bl b => k b
  | _ => False
theorem r_bl {w : WE} {ρ : Env} {Q : Bool → Env → Prop} : wBl w ρ Q = w ρ fun d ρ' => blOf d fun b => Q b ρ' := by
  show (w ρ fun d ρ' => match d with | .bl b => Q b ρ' | _ => False) = _
  rfl
theorem r_blOf {b : Bool} {k : Bool → Prop} : blOf (.bl b) k = k b := rfl
def seqOf (d : D) (k : List D → Prop) : Prop := match d with
  | .tup ds => pureL ds = true ∧ k ds
  | .lst ds => k ds
  | _ => False
theorem r_seq {w : WE} {ρ : Env} {Q : List D → Env → Prop} : wSeqD w ρ Q = w ρ fun d ρ' => seqOf d fun ds => Q ds ρ' := by
  show (w ρ fun d ρ' => match d with | .tup ds => pureL ds = true ∧ Q ds ρ' | .lst ds => Q ds ρ' | _ => False) = _
  rfl
theorem r_seqT {xs : List D} {k : List D → Prop} : seqOf (.tup xs) k = (pureL xs = true ∧ k xs) := rfl
theorem r_seqL {xs : List D} {k : List D → Prop} : seqOf (.lst xs) k = k xs := rfl
def intOf (d : D) (k : Option Int → Prop) : Prop := match d with
  | .int i => k (some i)
  | _ => False
theorem r_some {w : WE} {ρ : Env} {Q : Option Int → Env → Prop} : wSome w ρ Q = w ρ fun d ρ' => intOf d fun i => Q i ρ' := by
  show (w ρ fun d ρ' => match d with | .int i => Q (some i) ρ' | _ => False) = _
  rfl
theorem r_intOf {i : Int} {k : Option Int → Prop} : intOf (.int i) k = k (some i) := rfl
def rng1Of (ds : List D) (k : List D → Prop) : Prop := match ds with
  | [.int j] => -(2 ^ 62) ≤ j ∧ j < 2 ^ 62 ∧ k (rngD 0 j.toNat)
  | _ => False
theorem r_rng1 {wr : WA} {ρ : Env} {Q : List D → Env → Prop} : wRng1 wr ρ Q = wr ρ fun ds ρ' => rng1Of ds fun l => Q l ρ' := by
  show (wr ρ fun ds ρ' => match ds with | [.int j] => -(2 ^ 62) ≤ j ∧ j < 2 ^ 62 ∧ Q (rngD 0 j.toNat) ρ' | _ => False) = _
  rfl
theorem r_rng1I {j : Int} {k : List D → Prop} : rng1Of [.int j] k = (-(2 ^ 62) ≤ j ∧ j < 2 ^ 62 ∧ k (rngD 0 j.toNat)) := rfl
def enumOf (ds : List D) (k : List D → Prop) : Prop := match ds with
  | [.tup es] => pureL es = true ∧ k (enumD 0 es)
  | _ => False
theorem r_enum {wr : WA} {ρ : Env} {Q : List D → Env → Prop} : wEnum wr ρ Q = wr ρ fun ds ρ' => enumOf ds fun l => Q l ρ' := by
  show (wr ρ fun ds ρ' => match ds with | [.tup es] => pureL es = true ∧ Q (enumD 0 es) ρ' | _ => False) = _
  rfl
theorem r_enumT {xs : List D} {k : List D → Prop} : enumOf [.tup xs] k = (pureL xs = true ∧ k (enumD 0 xs)) := rfl
theorem r_gTup {n : Nat} {wgs : List D → Env → (Env → Prop) → Prop} {xs : List D} {ρ : Env} {Q : Env → Prop} : gTupD n wgs (.tup xs) ρ Q = (xs.length = n ∧ wgs xs ρ Q) := rfl
theorem r_gCons {wg : WG} {wgs : List D → Env → (Env → Prop) → Prop} {d : D} {r : List D} {ρ : Env} {Q : Env → Prop} : gConsD wg wgs (d :: r) ρ Q = wg d ρ fun ρ' => wgs r ρ' Q := rfl
theorem r_gNil {ρ : Env} {Q : Env → Prop} : gNilD [] ρ Q = Q ρ := rfl
theorem r_tyL {xs : List D} {t : String} : tyD (some (.lst xs)) t = (t == "list") := rfl
theorem r_flL {xs : List D} : flatD (.lst xs) = pureL xs := rfl
theorem pureL_map {α : Type} {f : α → D} {l : List α} (h : ∀ a ∈ l, (f a).pure = true) : pureL (l.map f) = true := by
  rw [pureL_iff]
  intro x hx
  obtain ⟨a, ha, rfl⟩ := List.mem_map.mp hx
  exact h a ha
theorem eqOks_map {α : Type} {f : α → D} {n : Nat} {l : List α} (h : ∀ a ∈ l, eqOk n (f a) = true) : eqOks n (l.map f) = true := by
  rw [eqOks_iff]
  intro x hx
  obtain ⟨a, ha, rfl⟩ := List.mem_map.mp hx
  exact h a ha
theorem comp_map {wl : WL} {we : WE} {ix : List Nat} {ρ : Env} {Q : D → Env → Prop} {f : D → D} (ds : List D) (ρ1 : Env) (h : wl ρ = fun q => q ds ρ1) (hz : ds.length < sizeLine) (he : ∀ d ∈ ds, ∀ Q', Q' (f d) (blkE ρ1 d ix) → we (blkE ρ1 d ix) Q') (hQ : Q (.lst (ds.map f)) ρ1) :
    wComp wl wAll we ix ρ Q := by
  unfold wComp
  rw [h]
  refine ⟨fun i ys => ys = (ds.take i).map f ∧ i ≤ ds.length, ⟨by simp, Nat.zero_le _⟩, fun i d ys hd ⟨hy, hi⟩ => ?_, fun ys ⟨hy, _⟩ => ?_⟩
  · have hlt := (List.getElem?_eq_some_iff.mp hd).1
    refine ⟨by rw [hy]; simp; omega, ?_⟩
    simp only [wAll, reduceIte]
    refine he d (List.mem_of_getElem? hd) _ ⟨?_, hlt⟩
    rw [hy, List.take_add_one, hd]
    simp
  · rw [hy, List.take_length]
    exact ⟨by simp; omega, hQ⟩
def compI (ds : List D) (wt : WT) (we : WE) (ρ1 : Env) (ix : List Nat) (Q : D → Env → Prop) : Prop := ∃ I : Nat → List D → Prop, I 0 [] ∧
  (∀ i d ys, ds[i]? = some d → I i ys → ys.length < sizeLine ∧ wt (blkE ρ1 d ix) fun b _ => if b = true then we (blkE ρ1 d ix) (fun y _ => I (i + 1) (ys ++ [y])) else I (i + 1) ys) ∧
  ∀ ys, I ds.length ys → ys.length ≤ sizeLine ∧ Q (.lst ys) ρ1
theorem r_comp {wl : WL} {wt : WT} {we : WE} {ix : List Nat} {ρ : Env} {Q : D → Env → Prop} : wComp wl wt we ix ρ Q = wl ρ fun ds ρ1 => compI ds wt we ρ1 ix Q := rfl
theorem compI_map {ds : List D} {we : WE} {ρ1 : Env} {ix : List Nat} {Q : D → Env → Prop} (f : D → D) (hz : ds.length < sizeLine) (he : ∀ d ∈ ds, ∀ Q' : D → Env → Prop, Q' (f d) (blkE ρ1 d ix) → we (blkE ρ1 d ix) Q') (hQ : Q (.lst (ds.map f)) ρ1) : compI ds wAll we ρ1 ix Q := by
  refine ⟨fun i ys => ys = (ds.take i).map f ∧ i ≤ ds.length, ⟨by simp, Nat.zero_le _⟩, fun i d ys hd ⟨hy, hi⟩ => ?_, fun ys ⟨hy, _⟩ => ?_⟩
  · have hlt := (List.getElem?_eq_some_iff.mp hd).1
    refine ⟨by rw [hy]; simp; omega, ?_⟩
    simp only [wAll, reduceIte]
    refine he d (List.mem_of_getElem? hd) _ ⟨?_, hlt⟩
    rw [hy, List.take_add_one, hd]
    simp
  · rw [hy, List.take_length]
    exact ⟨by simp; omega, hQ⟩
def forI (ds : List D) (wg : WG) (wb : WS) (P : EndsP) (ρ1 : Env) : Prop := ∃ I : Nat → Env → Prop, I 0 ρ1 ∧
  (∀ i d ρ, ds[i]? = some d → I i ρ → wg d ρ fun ρ' => wb { P with nx := I (i + 1), ct := I (i + 1), bk := P.nx } ρ') ∧ ∀ ρ, I ds.length ρ → P.nx ρ
theorem r_for {wl : WL} {wg : WG} {wb : WS} {P : EndsP} {ρ : Env} : wFor wl wg wb P ρ = wl ρ fun ds ρ1 => pureL ds = true ∧ forI ds wg wb P ρ1 := rfl
end PV
set_option Elab.async false
set_option linter.all false
set_option maxRecDepth 100000
set_option maxHeartbeats 4000000
namespace PV
open PySem PySem.Spec L2
section
variable {X : Cx} {T : Tg} {m o o1 o2 o3 : Bool} {a b c : Expr} {wa wb wc : WE} {pos p2 p : Pos} {wr : WA} {x : Str}
def dMaxL : GA
  | [.lst ds], k => ∃ ns : List Int, ds = ns.map .int ∧ 0 < ns.length ∧ ∀ M, M ∈ ns → (∀ b, b ∈ ns → b ≤ M) → k (.int M)
  | _, _ => False
theorem cd_maxL (hc : X.calm = true) : CallD X (.builtin "max") dMaxL := by
  refine ⟨_, call_maxL hc, fun H ds xs F k Q r g q => ?_⟩
  match ds, r, g with
  | [.lst es], r, g =>
    obtain ⟨ns, rfl, hn, g⟩ := g
    obtain ⟨v, rfl, rd⟩ := r.at1
    clear r
    cases rd with
    | lst e r9 =>
      obtain ⟨rfl, rfl⟩ := r9.of_ints
      exact ⟨_, ns, rfl, .inl (.of e), hn, fun M h1 h2 => q _ _ _ _ (.flat (.int _)) (g M h1 h2)⟩
def wChain (g g' : G2) (wa wb wc : WE) : WT := fun ρ Q => wa ρ fun x ρ1 => wb ρ1 fun y ρ2 => g x y fun d => blOf d fun k => if k = true then wc ρ2 fun u ρ3 => g' y u fun d' => blOf d' fun k' => Q k' ρ3 else Q false ρ2
theorem tv_chain {op op' : CmpOp} {g g' : G2} (ho : OpD X (compareOp op) g) (ho' : OpD X (compareOp op') g') (ha : EV X T false o1 a wa) (hb : EV X T false o2 b wb) (hc : EV X T false o3 c wc)
    (hm : lastMarks [op, op'] [b, c] = false := by with_unfolding_all rfl) : TV X T false (.Compare a [op, op'] [b, c] pos) (wChain g g' wa wb wc) := by
  obtain ⟨r, ro, gr⟩ := ho
  obtain ⟨r', ro', gr'⟩ := ho'
  obtain ⟨ta, pa, ga⟩ := ha
  obtain ⟨tb, pb, gb⟩ := hb
  obtain ⟨tc, pc, gc⟩ := hc
  refine ⟨_, pt_chain ro ro' pa pb pc hm, fun z R σ H W ρ Q Q' s hw k => ?_⟩
  refine two ga gb (.inr rfl) s hw fun x y H2 W2 d1 d2 ρ2 F1 F2 s2 f2 c2 r1 r2 _ _ _ q2 => ?_
  refine gr H2 d1 d2 x y F1 F2 _ _ r1 r2 q2 fun v H3 d F fi hk => ?_
  have f3 := f2.trans (FrW.same W2 fi.same)
  cases d with
  | bl k0 =>
    refine ⟨k0, rep_bl fi.rep, ?_⟩
    have hk : (if k0 = true then wc ρ2 fun u ρ3 => g' d2 u fun d' => blOf d' fun k' => Q k' ρ3 else Q false ρ2) := hk
    cases k0 with
    | false =>
      rw [if_neg Bool.false_ne_true] at hk ⊢
      exact ⟨false, rfl, k false H3 W2 ρ2 ⟨s2.same fi.same, f3, fun h => ⟨(c2 h).1.trans fi.same, (c2 h).2⟩⟩ hk⟩
    | true =>
      rw [if_pos rfl] at hk ⊢
      refine gc z R σ H3 W2 ρ2 _ _ (s2.same fi.same) hk fun u H4 W4 e ρ4 F' p q => ?_
      obtain ⟨a1, a2, a3⟩ := p.calm rfl
      refine gr' H4 d2 e y u F2 F' _ _ ((r2.same fi.same).same a1) p.rep q fun v5 H5 d5 F5 fi5 hk5 => ?_
      cases d5 with
      | bl k5 => exact ⟨k5, rep_bl fi5.rep, k k5 H5 W4 ρ4 ⟨p.sr.same fi5.same, (f3.trans p.fr).trans (FrW.same W4 fi5.same), fun h => ⟨(((c2 h).1.trans fi.same).trans a1).trans fi5.same, a2.trans (c2 h).2.1, a3.trans (c2 h).2.2⟩⟩ hk5⟩
      | _ => exact hk5.elim
  | _ => exact hk.elim
end
theorem r12_maxL {ds : List D} {k : D → Prop} : dMaxL [.lst ds] k = (∃ ns : List Int, ds = ns.map .int ∧ 0 < ns.length ∧ ∀ M, M ∈ ns → (∀ b, b ∈ ns → b ≤ M) → k (.int M)) := rfl
end PV
set_option Elab.async false
set_option linter.all false
set_option maxRecDepth 100000
set_option maxHeartbeats 4000000
namespace PV
open PySem PySem.Spec L2
section
variable {i j : Int} {x y : Str} {xs ys : List D} {k : D → Prop} {b c : Bool} {d e : D} {kvs kus : List (Key × D)}
theorem r2_add : dAddT (.int i) (.int j) k = k (.int (i + j)) := rfl
theorem r2_addT : dAddT (.tup xs) (.tup ys) k = (pureL xs = true ∧ pureL ys = true ∧ xs.length + ys.length ≤ sizeLine ∧ k (.tup (xs ++ ys))) := rfl
theorem r2_slL {lo hi : Option Int} : dSlT (.lst xs) lo hi k = (pureL xs = true ∧ k (.lst (cutD xs lo hi))) := rfl
theorem r2_slT {lo hi : Option Int} : dSlT (.tup xs) lo hi k = (pureL xs = true ∧ k (.tup (cutD xs lo hi))) := rfl
end
def keysOfD (d : D) (k : List D → Prop) : Prop := dikOf d fun kvs => k (keysD kvs)
theorem r2_keys {w : WE} {ρ : Env} {Q : List D → Env → Prop} : wKeys w ρ Q = w ρ fun d ρ' => keysOfD d fun ds => Q ds ρ' := by
  show (w ρ fun d ρ' => match d with | .dik kvs => Q (keysD kvs) ρ' | _ => False) = _
  first | rfl | (congr 1; funext d ρ'; cases d <;> rfl)
theorem r2_keysD {kvs : List (Key × D)} {k : List D → Prop} : keysOfD (.dik kvs) k = k (keysD kvs) := rfl
end PV
set_option Elab.async false
set_option linter.all false
set_option maxRecDepth 100000
set_option maxHeartbeats 4000000
namespace PV
open PySem PySem.Spec L2
section
variable {ns : List Int} {n : Int} {k : D → Prop} {xs : List D} {kvs : List (Key × D)}
end
end PV
set_option Elab.async false
set_option linter.all false
set_option maxRecDepth 100000
set_option maxHeartbeats 4000000
namespace PV
open PySem PySem.Spec L2
section
variable {i j : Int} {k : D → Prop} {xs ys : List D} {bs : List Bool} {d e : D}
theorem r4_two {k : D → D → Prop} : two2 (.tup [d, e]) k = k d e := rfl
end
end PV
set_option Elab.async false
set_option linter.all false
set_option maxRecDepth 100000
set_option maxHeartbeats 4000000
namespace PV
open PySem PySem.Spec L2
theorem pick3 {a b c : D} {r : Int} (h0 : 0 ≤ r) (h1 : r < 3) : L2.atI [a, b, c] r = some a ∨ L2.atI [a, b, c] r = some b ∨ L2.atI [a, b, c] r = some c := by
  have : r = 0 ∨ r = 1 ∨ r = 2 := by omega
  rcases this with rfl | rfl | rfl
  · exact .inl rfl
  · exact .inr (.inl rfl)
  · exact .inr (.inr rfl)
theorem pick4 {a b c d : D} {r : Int} (h0 : 0 ≤ r) (h1 : r < 4) : L2.atI [a, b, c, d] r = some a ∨ L2.atI [a, b, c, d] r = some b ∨ L2.atI [a, b, c, d] r = some c ∨ L2.atI [a, b, c, d] r = some d := by
  have : r = 0 ∨ r = 1 ∨ r = 2 ∨ r = 3 := by omega
  rcases this with rfl | rfl | rfl | rfl
  · exact .inl rfl
  · exact .inr (.inl rfl)
  · exact .inr (.inr (.inl rfl))
  · exact .inr (.inr (.inr rfl))
theorem mem_rngD {lo : Int} {n : Nat} {d : D} (h : d ∈ rngD lo n) : ∃ i : Nat, i < n ∧ d = .int (lo + (i : Int)) := by
  obtain ⟨i, hi, rfl⟩ := List.mem_map.mp h
  exact ⟨i, List.mem_range.mp hi, rfl⟩
theorem rngD_length {lo : Int} {n : Nat} : (rngD lo n).length = n := by simp [rngD]
theorem rngD_get {lo : Int} {n i : Nat} {d : D} (h : (rngD lo n)[i]? = some d) : i < n ∧ d = .int (lo + (i : Int)) := by
  have hi : i < n := by have := (List.getElem?_eq_some_iff.mp h).1; rwa [rngD_length] at this
  simp only [rngD, List.getElem?_map, List.getElem?_range hi, Option.map_some, Option.some.injEq] at h
  exact ⟨hi, h.symm⟩
theorem pure_rngD {lo : Int} {n : Nat} : pureL (rngD lo n) = true := pureL_map fun _ _ => rfl
theorem pure_ints {ns : List Int} : pureL (ns.map D.int) = true := pureL_map fun _ _ => rfl
def isP (p : Int) : Prop := p = 101 ∨ p = 10007 ∨ p = 999999937
theorem cop (p : Nat) (hp : p = 101 ∨ p = 10007 ∨ p = 999999937) : ∀ d : Nat, d < 101 → 0 < d → Nat.gcd p d = 1 := by
  rcases hp with rfl | rfl | rfl <;> decide +kernel
theorem arcs_ne {p leap off : Int} (hp : isP p) (h1 : 0 < leap) (h2 : leap < p) {i j : Nat} (hi : i < 101) (hij : j < i) (h : (off + (i : Int) * leap) % p = (off + (j : Int) * leap) % p) : False := by
  obtain ⟨q, rfl⟩ := Int.eq_ofNat_of_zero_le (show 0 ≤ leap by omega)
  obtain ⟨P, rfl⟩ : ∃ P : Nat, p = (P : Int) := Int.eq_ofNat_of_zero_le (by rcases hp with z | z | z <;> omega)
  have hP : P = 101 ∨ P = 10007 ∨ P = 999999937 := by
    rcases hp with z | z | z
    · exact .inl (by omega)
    · exact .inr (.inl (by omega))
    · exact .inr (.inr (by omega))
  have e := Int.emod_eq_emod_iff_emod_sub_eq_zero.mp h
  have e2 : off + (i : Int) * (q : Int) - (off + (j : Int) * (q : Int)) = (((i - j) * q : Nat) : Int) := by
    rw [Int.natCast_mul, Int.ofNat_sub (by omega), Int.sub_mul]
    omega
  rw [e2] at e
  have e3 : ((i - j) * q) % P = 0 := by exact_mod_cast e
  have d1 : P ∣ (i - j) * q := Nat.dvd_of_mod_eq_zero e3
  have c1 : Nat.gcd P (i - j) = 1 := cop P hP _ (by omega) (by omega)
  have d2 : P ∣ q := Nat.Coprime.dvd_of_dvd_mul_left c1 d1
  have := Nat.le_of_dvd (by omega) d2
  omega
theorem arcs_nodup {p leap off : Int} (hp : isP p) (h1 : 0 < leap) (h2 : leap < p) {q : Nat} (hq : q ≤ 101) : ((List.range q).map fun (i : Nat) => (off + (i : Int) * leap) % p).Nodup := by
  rw [List.nodup_iff_pairwise_ne, List.pairwise_map]
  refine List.Pairwise.imp_of_mem ?_ (List.pairwise_lt_range)
  intro i j hi hj hlt h
  exact arcs_ne hp h1 h2 (by have := List.mem_range.mp hj; omega) hlt h.symm
theorem cut_mid {ds : List D} {a b : Nat} (h : a ≤ b) (hb : b ≤ ds.length) : cutD ds (some (a : Int)) (some (b : Int)) = (ds.drop a).take (b - a) := by
  unfold cutD
  rw [HT.sIx_nat, HT.sIx_nat, Nat.min_eq_left hb, Nat.min_eq_left (Nat.le_trans h hb)]
theorem cut_from {ds : List D} {a : Nat} (h : a ≤ ds.length) : cutD ds (some (a : Int)) none = ds.drop a := by
  unfold cutD
  rw [HT.sIx_nat, HT.sIx_none, Nat.min_eq_left h, List.take_of_length_le (by simp)]
def rowD (c n : Int) : D := .lst [.int c, .int n]
def webD (m e : Nat) (A : Nat → Int) (r : Int) : D := .tup [.tup ((List.range m).map fun k => .tup ((List.range 4).map fun j => .int (A (4 * k + j)))), .tup ((List.range e).map fun j => .int (A (4 * m + j))), .int r]
structure Pr (N : Nat) (xs : List Int) (t : Nat) (L : List Nat) (Bs : List Int) (ps : List (Nat × Nat)) : Prop where
  bl : Bs.length = N
  pl : ps.length = t
  perm : (ps.flatMap (fun p => [p.1, p.2]) ++ L).Perm (List.range N)
  val : ∀ (s : Nat) p, ps[s]? = some p → ∃ x, xs[s]? = some x ∧ Bs[p.1]? = some x ∧ Bs[p.2]? = some x
theorem Pr.lt {N : Nat} {xs : List Int} {t : Nat} {L : List Nat} {Bs : List Int} {ps : List (Nat × Nat)} (h : Pr N xs t L Bs ps) {i : Nat} (hi : i ∈ L) : i < N := by
  have := h.perm.mem_iff.mp (List.mem_append.mpr (.inr hi))
  exact List.mem_range.mp this
theorem Pr.nd {N : Nat} {xs : List Int} {t : Nat} {L : List Nat} {Bs : List Int} {ps : List (Nat × Nat)} (h : Pr N xs t L Bs ps) : (ps.flatMap (fun p => [p.1, p.2]) ++ L).Nodup := h.perm.nodup_iff.mpr List.nodup_range
theorem Pr.start (N : Nat) (xs : List Int) : Pr N xs 0 (List.range N) (List.replicate N 0) [] := ⟨by simp, rfl, by simp, fun s p h => by simp at h⟩
theorem perm_erase {α : Type} : ∀ {l : List α} {i : Nat} (h : i < l.length), (l[i] :: l.eraseIdx i).Perm l
  | a :: l, 0, _ => List.Perm.refl _
  | a :: l, i + 1, h => by
    have := perm_erase (l := l) (i := i) (by simpa using h)
    simp only [List.getElem_cons_succ, List.eraseIdx_cons_succ]
    exact (List.Perm.swap _ _ _).trans (this.cons a)
theorem map_erase {α β : Type} {f : α → β} : ∀ {l : List α} {i : Nat}, (l.map f).eraseIdx i = (l.eraseIdx i).map f
  | [], _ => rfl
  | a :: l, 0 => rfl
  | a :: l, i + 1 => by simp only [List.map_cons, List.eraseIdx_cons_succ, map_erase]
theorem Pr.step {N : Nat} {xs : List Int} {t i s : Nat} {L : List Nat} {Bs : List Int} {ps : List (Nat × Nat)} {x : Int} (h : Pr N xs t (i :: L) Bs ps) (hx : xs[t]? = some x) (hs : s < L.length) :
    Pr N xs (t + 1) (L.eraseIdx s) ((Bs.set i x).set L[s] x) (ps ++ [(i, L[s])]) := by
  have nd := h.nd
  obtain ⟨n1, n2, n3⟩ := List.nodup_append.mp nd
  have hjm : L[s] ∈ L := List.getElem_mem hs
  have hij : i ≠ L[s] := fun z => (List.nodup_cons.mp n2).1 (z ▸ hjm)
  have hi := h.lt (List.mem_cons_self (a := i))
  have hj := h.lt (List.mem_cons_of_mem i hjm)
  refine ⟨by simp [h.bl], by simp [h.pl], ?_, fun s' p hp => ?_⟩
  · rw [List.flatMap_append]
    refine List.Perm.trans ?_ h.perm
    rw [List.append_assoc]
    refine List.Perm.append_left _ ?_
    show (i :: L[s] :: L.eraseIdx s).Perm (i :: L)
    exact List.Perm.cons _ (perm_erase hs)
  · by_cases hs' : s' < ps.length
    · rw [List.getElem?_append_left hs'] at hp
      obtain ⟨y, h1, h2, h3⟩ := h.val s' p hp
      have mem : ∀ a, a = p.1 ∨ a = p.2 → a ∈ ps.flatMap (fun p => [p.1, p.2]) := fun a ha => List.mem_flatMap.mpr ⟨p, List.mem_of_getElem? hp, by simpa using ha⟩
      have ne : ∀ a, a = p.1 ∨ a = p.2 → i ≠ a ∧ L[s] ≠ a := fun a ha => ⟨fun z => n3 a (mem a ha) i List.mem_cons_self z.symm, fun z => n3 a (mem a ha) L[s] (List.mem_cons_of_mem _ hjm) z.symm⟩
      refine ⟨y, h1, ?_, ?_⟩
      · rw [List.getElem?_set_ne (ne _ (.inl rfl)).2, List.getElem?_set_ne (ne _ (.inl rfl)).1]; exact h2
      · rw [List.getElem?_set_ne (ne _ (.inr rfl)).2, List.getElem?_set_ne (ne _ (.inr rfl)).1]; exact h3
    · have e : s' = t := by
        have := (List.getElem?_eq_some_iff.mp hp).1
        have := h.pl
        simp at *
        omega
      subst e
      rw [List.getElem?_append_right (by omega), h.pl, Nat.sub_self] at hp
      simp at hp
      subst hp
      refine ⟨x, hx, ?_, ?_⟩
      · rw [List.getElem?_set_ne (Ne.symm hij), List.getElem?_set_self (by rw [h.bl]; exact hi)]
      · rw [List.getElem?_set_self (by rw [List.length_set, h.bl]; exact hj)]
theorem Pr.tw {N : Nat} {xs : List Int} {t : Nat} {Bs : List Int} {ps : List (Nat × Nat)} (h : Pr N xs t [] Bs ps) (nd : xs.Nodup) : ∃ g, M.Tw N (fun i => Bs.getD i 0) g := by
  have nf := h.nd
  rw [List.append_nil] at nf
  have val : ∀ i, i < N → ∃ (s : Nat) (p : Nat × Nat) (x : Int), ps[s]? = some p ∧ (i = p.1 ∨ i = p.2) ∧ xs[s]? = some x ∧ Bs.getD i 0 = x := fun i hi => by
    have := h.perm.mem_iff.mpr (List.mem_range.mpr hi)
    rw [List.append_nil] at this
    obtain ⟨p, hp, hip⟩ := List.mem_flatMap.mp this
    obtain ⟨s, hs⟩ := List.mem_iff_getElem?.mp hp
    obtain ⟨x, h1, h2, h3⟩ := h.val s p hs
    have hip' : i = p.1 ∨ i = p.2 := by simpa using hip
    refine ⟨s, p, x, hs, hip', h1, ?_⟩
    rcases hip' with z | z
    · rw [List.getD_eq_getElem?_getD, z, h2]; rfl
    · rw [List.getD_eq_getElem?_getD, z, h3]; rfl
  have ne : ∀ p ∈ ps, p.1 ≠ p.2 := fun p hp z => by
    have : [p.1, p.2].Nodup := by
      have hsub : [p.1, p.2].Sublist (ps.flatMap fun p => [p.1, p.2]) := by
        obtain ⟨a, b, rfl⟩ := List.append_of_mem hp
        rw [List.flatMap_append, List.flatMap_cons]
        exact (List.sublist_append_left _ _).trans (List.sublist_append_right _ _)
      exact nf.sublist hsub
    simp [z] at this
  have ltp : ∀ p ∈ ps, p.1 < N ∧ p.2 < N := fun p hp => by
    have m1 := h.perm.mem_iff.mp (List.mem_append.mpr (.inl (List.mem_flatMap.mpr ⟨p, hp, List.mem_cons_self⟩)))
    have m2 := h.perm.mem_iff.mp (List.mem_append.mpr (.inl (List.mem_flatMap.mpr ⟨p, hp, List.mem_cons_of_mem _ List.mem_cons_self⟩)))
    exact ⟨List.mem_range.mp m1, List.mem_range.mp m2⟩
  have ex : ∀ i, ∃ j, i < N → j < N ∧ j ≠ i ∧ Bs.getD j 0 = Bs.getD i 0 ∧ ∀ k, k < N → Bs.getD k 0 = Bs.getD i 0 → k = i ∨ k = j := fun i => by
    by_cases hi : i < N
    · obtain ⟨s, p, x, hs, hip, hx, hv⟩ := val i hi
      have hp := List.mem_of_getElem? hs
      obtain ⟨x', h1, h2, h3⟩ := h.val s p hs
      rw [hx] at h1; cases h1
      have only : ∀ k, k < N → Bs.getD k 0 = Bs.getD i 0 → k = p.1 ∨ k = p.2 := fun k hk e => by
        obtain ⟨s', p', y, hs', hkp, hy, hw⟩ := val k hk
        rw [hw, hv] at e
        subst e
        have : s' = s := by
          have l1 := (List.getElem?_eq_some_iff.mp hx)
          have l2 := (List.getElem?_eq_some_iff.mp hy)
          obtain ⟨a1, a2⟩ := l1
          obtain ⟨b1, b2⟩ := l2
          exact (List.getElem_inj nd).mp (b2.trans a2.symm)
        subst this
        rw [hs] at hs'; cases hs'
        exact hkp
      rcases hip with z | z
      · refine ⟨p.2, fun _ => ⟨(ltp p hp).2, fun q => ne p hp (by rw [← z, q]), ?_, fun k hk e => (only k hk e).imp (fun q => q.trans z.symm) id⟩⟩
        rw [hv, List.getD_eq_getElem?_getD, h3]; rfl
      · refine ⟨p.1, fun _ => ⟨(ltp p hp).1, fun q => ne p hp (by rw [q, z]), ?_, fun k hk e => (only k hk e).elim .inr (fun q => .inl (q.trans z.symm))⟩⟩
        rw [hv, List.getD_eq_getElem?_getD, h2]; rfl
    · exact ⟨0, fun z => absurd z hi⟩
  refine ⟨fun i => Classical.choose (ex i), fun i hi => (Classical.choose_spec (ex i) hi).1, fun i hi => (Classical.choose_spec (ex i) hi).2.1, fun i hi => (Classical.choose_spec (ex i) hi).2.2.1, fun i k hi hk e => (Classical.choose_spec (ex i) hi).2.2.2 k hk e⟩
theorem drop_take_range {Bs : List Int} {a b : Nat} (h : a + b ≤ Bs.length) : ((Bs.map D.int).drop a).take b = (List.range b).map fun j => D.int (Bs.getD (a + j) 0) := by
  apply List.ext_getElem?
  intro j
  rw [List.getElem?_take, List.getElem?_map]
  by_cases hj : j < b
  · rw [if_pos hj, List.getElem?_drop, List.getElem?_map, List.getElem?_range hj, List.getElem?_eq_getElem (by omega)]
    simp [List.getD_eq_getElem?_getD, List.getElem?_eq_getElem (show a + j < Bs.length by omega)]
  · rw [if_neg hj, List.getElem?_eq_none (by simpa using hj)]; rfl
def crossF (Bs : List Int) : D → D
  | .int k => .tup ((List.range 4).map fun j => .int (Bs.getD (4 * k.toNat + j) 0))
  | d => d
theorem crossF_nat {Bs : List Int} {i : Nat} : crossF Bs (.int (0 + (i : Int))) = .tup ((List.range 4).map fun j => .int (Bs.getD (4 * i + j) 0)) := by
  show D.tup ((List.range 4).map fun j => .int (Bs.getD (4 * (0 + (i : Int)).toNat + j) 0)) = _
  rw [show (0 + (i : Int)).toNat = i by omega]
theorem crossF_map {Bs : List Int} {m : Nat} : (rngD 0 m).map (crossF Bs) = (List.range m).map fun k => .tup ((List.range 4).map fun j => .int (Bs.getD (4 * k + j) 0)) := by
  unfold rngD
  rw [List.map_map]
  apply List.map_congr_left
  intro i _
  exact crossF_nat
theorem getD_all {Bs : List Int} {P : Int → Prop} (h0 : P 0) (h : ∀ b ∈ Bs, P b) (i : Nat) : P (Bs.getD i 0) := by
  rw [List.getD_eq_getElem?_getD]
  cases q : Bs[i]? with
  | none => exact h0
  | some b => exact h b (List.mem_of_getElem? q)
end PV
set_option Elab.async false
set_option linter.all false
set_option maxRecDepth 100000
set_option maxHeartbeats 4000000
namespace PV
open PySem PySem.Spec L2
def spD (m i : Nat) : D := .tup [.int (M.sp m i).1, .int (M.sp m i).2]
def encP (s : Nat → D) (P : List (Int × List Nat)) : List (Key × D) := P.map fun e => ((.inl e.1 : Key), D.lst (e.2.map s))
theorem encP_keys {s : Nat → D} {P : List (Int × List Nat)} (nd : (P.map (·.1)).Nodup) : ((encP s P).map (·.1)).Nodup := by
  unfold encP
  rw [List.map_map]
  have : (P.map ((fun (x : Key × D) => x.1) ∘ fun e => ((.inl e.1 : Key), D.lst (e.2.map s)))) = (P.map (·.1)).map (fun a => (.inl a : Key)) := by rw [List.map_map]; rfl
  rw [this, List.nodup_iff_pairwise_ne, List.pairwise_map]
  exact List.Pairwise.imp (fun h z => h (by injection z)) (List.nodup_iff_pairwise_ne.mp nd)
theorem encP_val {s : Nat → D} {a : Int} : ∀ {P : List (Int × List Nat)}, valD (encP s P) (.inl a) = (P.find? fun e => decide (e.1 = a)).map fun e => D.lst (e.2.map s)
  | [] => rfl
  | e :: P => by
    show valD (((.inl e.1 : Key), D.lst (e.2.map s)) :: encP s P) (.inl a) = _
    rw [valD_cons]
    by_cases h : e.1 = a
    · rw [if_pos (by rw [h]), List.find?_cons_of_pos (by simp [h])]; rfl
    · rw [if_neg (fun z => h (by injection z)), encP_val, List.find?_cons_of_neg (by simp [h])]
theorem key_uniq {α β : Type} {f : α → β} : ∀ {l : List α} {a b : α}, (l.map f).Nodup → a ∈ l → b ∈ l → f a = f b → a = b
  | [], _, _, _, h, _, _ => by cases h
  | x :: l, a, b, nd, ha, hb, e => by
    obtain ⟨n1, n2⟩ := List.nodup_cons.mp (show (f x :: l.map f).Nodup from nd)
    rcases List.mem_cons.mp ha with za | ha
    · rcases List.mem_cons.mp hb with zb | hb
      · rw [za, zb]
      · exact absurd (by rw [← za, e]; exact List.mem_map.mpr ⟨b, hb, rfl⟩) n1
    · rcases List.mem_cons.mp hb with zb | hb
      · exact absurd (by rw [← zb, ← e]; exact List.mem_map.mpr ⟨a, ha, rfl⟩) n1
      · exact key_uniq n2 ha hb e
theorem sda_enc {s : Nat → D} {P : List (Int × List Nat)} {a : Int} {i : Nat} (nd : (P.map (·.1)).Nodup) : ∃ l : List Nat, (l = [] ∨ ∃ e ∈ P, l = e.2) ∧ valD (sdNew (encP s P) (.inl a)) (.inl a) = some (.lst (l.map s)) ∧
    putD (sdNew (encP s P) (.inl a)) (.inl a) (.lst (l.map s ++ [s i])) = encP s (M.addP P a i) := by
  have hv := encP_val (s := s) (a := a) (P := P)
  cases hf : P.find? fun e => decide (e.1 = a) with
  | none =>
    rw [hf] at hv
    have hv : valD (encP s P) (.inl a) = none := hv
    have e1 : sdNew (encP s P) (.inl a) = encP s P ++ [((.inl a : Key), .lst [])] := by unfold sdNew; rw [hv]; rfl
    have hany : ¬ (P.any fun e => decide (e.1 = a)) = true := fun z => by
      obtain ⟨e, he, h⟩ := List.any_eq_true.mp z
      exact List.find?_eq_none.mp hf e he h
    refine ⟨[], .inl rfl, ?_, ?_⟩
    · rw [e1, valD_snoc, hv]; simp
    · have hadd : M.addP P a i = P ++ [(a, [i])] := by unfold M.addP; rw [if_neg hany]
      have hno : ∀ kv ∈ encP s P, kv.1 ≠ (.inl a : Key) := fun kv hkv z => by
        obtain ⟨e, he, rfl⟩ := List.mem_map.mp hkv
        exact hany (List.any_eq_true.mpr ⟨e, he, by simpa using z⟩)
      rw [hadd, e1]
      unfold putD
      rw [if_pos (by simp), List.map_append]
      have : (encP s P).map (fun kv => if kv.1 = (.inl a : Key) then (kv.1, D.lst (([] : List Nat).map s ++ [s i])) else kv) = encP s P := by
        conv => rhs; rw [← List.map_id (encP s P)]
        apply List.map_congr_left
        intro kv hkv
        rw [if_neg (hno kv hkv)]; rfl
      rw [this]
      simp [encP]
  | some e =>
    rw [hf] at hv
    have hv : valD (encP s P) (.inl a) = some (.lst (e.2.map s)) := hv
    have he := List.mem_of_find?_eq_some hf
    have hk : e.1 = a := by have := List.find?_some hf; simpa using this
    have e1 : sdNew (encP s P) (.inl a) = encP s P := by unfold sdNew; rw [hv]; rfl
    have hany : (P.any fun e => decide (e.1 = a)) = true := List.any_eq_true.mpr ⟨e, he, by simpa using hk⟩
    refine ⟨e.2, .inr ⟨e, he, rfl⟩, by rw [e1]; exact hv, ?_⟩
    have hadd : M.addP P a i = P.map (fun x => if x.1 = a then (x.1, x.2 ++ [i]) else x) := by unfold M.addP; rw [if_pos hany]
    rw [e1, hadd]
    unfold putD
    rw [if_pos (by rw [anyD_iff, hv]; rfl)]
    unfold encP
    rw [List.map_map, List.map_map]
    apply List.map_congr_left
    intro x hx
    show (if (.inl x.1 : Key) = .inl a then ((.inl x.1 : Key), D.lst (e.2.map s ++ [s i])) else ((.inl x.1 : Key), D.lst (x.2.map s))) = ((.inl (if x.1 = a then (x.1, x.2 ++ [i]) else x).1 : Key), D.lst ((if x.1 = a then (x.1, x.2 ++ [i]) else x).2.map s))
    by_cases q : x.1 = a
    · have : x = e := key_uniq nd hx he (q.trans hk.symm)
      subst this
      rw [if_pos (by rw [q]), if_pos q]
      simp
    · rw [if_neg (fun z => q (by injection z)), if_neg q]
theorem plc_len (A : Nat → Int) : ∀ t, (M.plc A t).length ≤ t
  | 0 => Nat.le_refl _
  | t + 1 => by
    rw [M.plc_succ]
    have := plc_len A t
    unfold M.addP
    split <;> simp <;> omega
theorem plc_lens (A : Nat → Int) (t : Nat) : ∀ e ∈ M.plc A t, e.2.length ≤ t := fun e he => by
  obtain ⟨_, h2, _⟩ := M.plc_ok A t
  rw [(h2 e he).1]
  have := List.length_filter_le (fun i => decide (A i = e.1)) (List.range t)
  simpa using this
theorem pure_enum : ∀ {ds : List D} {n : Nat}, pureL ds = true → pureL (enumD n ds) = true
  | [], _, _ => rfl
  | d :: r, n, h => by
    simp only [pureL, Bool.and_eq_true] at h
    simp only [enumD, pureL, D.pure, Bool.and_eq_true]
    exact ⟨⟨trivial, h.1, trivial⟩, pure_enum h.2⟩
theorem pure_sp {m i : Nat} : (spD m i).pure = true := rfl
end PV
set_option Elab.async false
set_option linter.all false
set_option maxRecDepth 100000
set_option maxHeartbeats 4000000
namespace M
open PySem PySem.Spec L2 PV
def ix (a : Int) : List Int → Nat
  | [] => 0
  | x :: l => if x = a then 0 else ix a l + 1
theorem ix_lt {a : Int} : ∀ {l : List Int}, a ∈ l → ix a l < l.length
  | [], h => by cases h
  | x :: l, h => by
    unfold ix
    split
    · simp
    · rename_i n
      rcases List.mem_cons.mp h with z | h
      · exact absurd z.symm n
      · have := ix_lt h; simp; omega
theorem ix_inj {a b : Int} : ∀ {l : List Int}, a ∈ l → b ∈ l → ix a l = ix b l → a = b
  | [], h, _, _ => by cases h
  | x :: l, ha, hb, e => by
    unfold ix at e
    split at e
    · rename_i h1
      split at e
      · rename_i h2; rw [← h1, ← h2]
      · omega
    · rename_i h1
      split at e
      · omega
      · rename_i h2
        rcases List.mem_cons.mp ha with z | ha
        · exact absurd z.symm h1
        · rcases List.mem_cons.mp hb with z | hb
          · exact absurd z.symm h2
          · exact ix_inj ha hb (by omega)
def keys (A : Nat → Int) (t : Nat) : List Int := (plc A t).map (·.1)
theorem keys_nd (A : Nat → Int) (t : Nat) : (keys A t).Nodup := (plc_ok A t).1
theorem keys_mem {A : Nat → Int} {t i : Nat} (h : i < t) : A i ∈ keys A t := by
  obtain ⟨e, he, hk⟩ := (plc_ok A t).2.2 i h
  exact List.mem_map.mpr ⟨e, he, hk⟩
theorem keys_of {A : Nat → Int} {t : Nat} {a : Int} (h : a ∈ keys A t) : ∃ i, i < t ∧ A i = a := by
  obtain ⟨e, he, rfl⟩ := List.mem_map.mp h
  obtain ⟨h1, h2⟩ := (plc_ok A t).2.1 e he
  rw [h1] at h2
  obtain ⟨i, hi⟩ := List.exists_mem_of_ne_nil _ h2
  rw [List.mem_filter] at hi
  exact ⟨i, List.mem_range.mp hi.1, by simpa using hi.2⟩
theorem keys_len (A : Nat → Int) (t : Nat) : (keys A t).length ≤ t := by unfold keys; rw [List.length_map]; exact plc_len A t
def anw (A : Nat → Int) (t : Nat) (i : Nat) : Int := (ix (A i) (keys A t) : Nat)
end M
namespace PV
open PySem PySem.Spec L2
def num : Nat → List Int → List (Key × D)
  | _, [] => []
  | n, a :: l => (.inl a, .int (n : Nat)) :: num (n + 1) l
theorem num_len : ∀ {l : List Int} {n : Nat}, (num n l).length = l.length
  | [], _ => rfl
  | a :: l, n => by simp [num, num_len]
theorem num_val {a : Int} : ∀ {l : List Int} {n : Nat}, a ∈ l → valD (num n l) (.inl a) = some (.int ((n + M.ix a l : Nat) : Int))
  | [], _, h => by cases h
  | x :: l, n, h => by
    unfold num M.ix
    rw [valD_cons]
    by_cases e : x = a
    · rw [if_pos (by rw [e]), if_pos e]; rfl
    · rw [if_neg (fun z => e (by injection z)), if_neg e]
      rcases List.mem_cons.mp h with z | h
      · exact absurd z.symm e
      · rw [num_val h]; congr 2; omega
theorem num_none {a : Int} : ∀ {l : List Int} {n : Nat}, a ∉ l → valD (num n l) (.inl a) = none
  | [], _, _ => rfl
  | x :: l, n, h => by
    rw [List.mem_cons, not_or] at h
    unfold num
    rw [valD_cons, if_neg (fun z => h.1 (by injection z with z; exact z.symm)), num_none h.2]
theorem num_snoc {a : Int} : ∀ {l : List Int} {n : Nat}, num n (l ++ [a]) = num n l ++ [(.inl a, .int ((n + l.length : Nat) : Int))]
  | [], n => by simp [num]
  | x :: l, n => by
    rw [List.cons_append, num, num, num_snoc, List.cons_append]
    congr 3
    simp; omega
theorem num_put {a : Int} {l : List Int} (h : a ∉ l) : putD (num 0 l) (.inl a) (.int ((num 0 l).length : Nat)) = num 0 (l ++ [a]) := by
  rw [putD_new _ (num_none h), num_snoc, num_len, Nat.zero_add]
theorem keys_enc {s : Nat → D} {P : List (Int × List Nat)} : keysD (encP s P) = (P.map (·.1)).map D.int := by
  unfold keysD encP
  rw [List.map_map, List.map_map]; rfl
theorem webD_congr {m e : Nat} {A B : Nat → Int} {r : Int} (h : ∀ i, i < 4 * m + e → A i = B i) : webD m e A r = webD m e B r := by
  unfold webD
  have h1 : ((List.range m).map fun k => D.tup ((List.range 4).map fun j => .int (A (4 * k + j)))) = (List.range m).map fun k => D.tup ((List.range 4).map fun j => .int (B (4 * k + j))) := by
    apply List.map_congr_left
    intro k hk
    have hk := List.mem_range.mp hk
    congr 1
    apply List.map_congr_left
    intro j hj
    have hj := List.mem_range.mp hj
    rw [h _ (by omega)]
  have h2 : ((List.range e).map fun j => D.int (A (4 * m + j))) = (List.range e).map fun j => D.int (B (4 * m + j)) := by
    apply List.map_congr_left
    intro j hj
    have hj := List.mem_range.mp hj
    rw [h _ (by omega)]
  rw [h1, h2]
theorem webD_eq9 {m e : Nat} {A : Nat → Int} {r : Int} : eqOk 9 (webD m e A r) = true := by
  unfold webD
  simp only [eqOk, eqOks, Bool.and_true, Bool.and_eq_true]
  exact ⟨eqOks_map fun _ _ => by simp only [eqOk]; exact eqOks_map fun _ _ => rfl, eqOks_map fun _ _ => rfl⟩
end PV
set_option Elab.async false
set_option linter.all false
namespace M32
def bin : Nat → Nat → Nat
  | _, 0 => 1
  | 0, _ + 1 => 0
  | n + 1, k + 1 => bin n k + bin n (k + 1)
def sg (r : Nat) : Int := if r % 2 = 0 then 1 else -1
def num (r k : Nat) : Int := sg r * (bin r k : Int)
open PV L2
section
variable {c : Int} {f : Nat → D} {n i : Nat}
def nm (r : Nat) (j : Nat) : D := .int (num r j)
end
def wt (p : Int) (r : Nat) (n : Nat) : List D := (List.range n).map fun (k : Nat) => .tup [.int (p + 4 * (k : Int)), .int (num r k)]
end M32
set_option Elab.async false
set_option linter.all false
set_option maxRecDepth 100000
set_option maxHeartbeats 4000000
namespace PV
open PySem PySem.Spec L2
section
variable {X : Cx} {T : Tg} {m o m1 m2 m3 o1 o2 : Bool} {e a b : Expr} {w wa wb : WE} {pos p2 p : Pos} {es : List Expr} {wr : WA} {x : Str}
variable {name : Str} {apos cpos : Pos} {T' id : String}
end
end PV
namespace S03
open PySem PySem.Spec L2 PV
open PySem.Builtin.Str (glued)
def nw (n : Int) : Str := Str.ofString (toString n)
theorem O1 : Str.ofString "o" = ⟨#[111]⟩ := by decide
def wx : Str := Str.ofString "x"
def we : Str := Str.ofString "e"
def wo : Str := Str.ofString "o"
def Wx (A : Nat → Int) : Nat → List Str
  | 0 => []
  | k + 1 => Wx A k ++ (wx :: (List.range 4).map fun j => nw (A (4 * k + j)))
def We (m e : Nat) (A : Nat → Int) : List Str := if e = 0 then [] else we :: (List.range e).map fun j => nw (A (4 * m + j))
def Wo (r : Int) : List Str := if 0 < r then [wo, nw r] else []
def Ws (m e : Nat) (A : Nat → Int) (r : Int) : List Str := Wx A m ++ (We m e A ++ Wo r)
def tx (m e : Nat) (A : Nat → Int) (r : Int) : Str := glued (Str.ofString " ") (Ws m e A r)
variable {k : D → Prop} {kk : D → D → Prop} {i : Int} {x y : Str} {xs ys : List D} {kvs : List (Key × D)}
theorem small {n : Nat} (h : n ≤ 100000) : n < sizeLine := Nat.lt_of_le_of_lt h (by decide)
end S03
set_option Elab.async false
set_option linter.all false
set_option maxRecDepth 100000
set_option maxHeartbeats 4000000
namespace S24
open PySem PySem.Spec L2 PV S03
open PySem.Builtin.Str (glued occurrences strSub subAt)
def big : Int := 1000000000000000000000000000000000000000000000000000000000000
def av (n : Int) : Int := if n < 0 then -n else n
def pw (p : Int) : Str := if p = 0 then Str.ofString "" else if p = 1 then Str.ofString "x" else Str.ofString "x^" ++ nw p
def fore (t : Int × Int) : Str := if av t.2 = 1 then Str.ofString "" else nw (av t.2)
def hind (p : Int) : Str := if p = 1 then Str.ofString "" else Str.ofString "^" ++ nw p
def tm (t : Int × Int) : Str := if t.1 = 0 then nw (av t.2) else fore t ++ Str.ofString "x" ++ hind t.1
def sg (n : Int) : Str := if n < 0 then Str.ofString "-" else Str.ofString "+"
def ws (ts : List (Int × Int)) : List Str := ts.flatMap fun t => [sg t.2, tm t]
def fst (n : Int) : Str := if n < 0 then Str.ofString "-" else Str.ofString ""
def tx : List (Int × Int) → Str
  | [] => Str.ofString "0"
  | t :: r => fst t.2 ++ glued (Str.ofString " ") (tm t :: ws r)
section
variable {k : D → Prop} {i : Int} {x y : Str} {xs zs : List D}
end
end S24
set_option Elab.async false
set_option linter.all false
set_option maxHeartbeats 4000000
namespace M
theorem keys_succ (A : Nat → Int) (t : Nat) : keys A (t + 1) = if A t ∈ keys A t then keys A t else keys A t ++ [A t] := by
  unfold keys
  rw [plc_succ, addP_keys]
  by_cases h : A t ∈ (plc A t).map (·.1)
  · rw [if_pos h, if_pos]
    obtain ⟨e, he, hq⟩ := List.mem_map.mp h
    exact List.any_eq_true.mpr ⟨e, he, decide_eq_true hq⟩
  · rw [if_neg h, if_neg]
    intro z
    obtain ⟨e, he, hq⟩ := List.any_eq_true.mp z
    exact h (List.mem_map.mpr ⟨e, he, of_decide_eq_true hq⟩)
theorem keys_prefix (A : Nat → Int) {s t : Nat} (h : s ≤ t) : ∃ r, keys A t = keys A s ++ r := by
  induction t with
  | zero => exact ⟨[], by rw [show s = 0 by omega, List.append_nil]⟩
  | succ t ih =>
    by_cases e : s = t + 1
    · exact ⟨[], by rw [e, List.append_nil]⟩
    · obtain ⟨r, hr⟩ := ih (by omega)
      rw [keys_succ]
      split
      · exact ⟨r, hr⟩
      · exact ⟨r ++ [A t], by rw [hr, List.append_assoc]⟩
theorem ix_new {a : Int} : ∀ {l r : List Int}, a ∉ l → ix a (l ++ a :: r) = l.length
  | [], r, _ => by show (if a = a then 0 else _) = 0; rw [if_pos rfl]
  | x :: l, r, h => by
    rw [List.cons_append]
    unfold ix
    rw [if_neg (fun e => h (by rw [e]; exact List.mem_cons_self)), ix_new fun z => h (List.mem_cons_of_mem _ z), List.length_cons]
theorem seen_iff {n t : Nat} {A : Nat → Int} {g : Nat → Nat} (T : Tw n A g) (ht : t < n) : A t ∈ keys A t ↔ g t < t := by
  refine ⟨fun h => ?_, fun h => ?_⟩
  · obtain ⟨i, hi, e⟩ := keys_of h
    rcases T.only t i ht (by omega) e with z | z
    · omega
    · omega
  · rw [← T.eq t ht]
    exact keys_mem h
theorem anw_new {n t : Nat} {A : Nat → Int} {g : Nat → Nat} (T : Tw n A g) (ht : t < n) (h : ¬ g t < t) : anw A n t = ((keys A t).length : Nat) := by
  have hn : A t ∉ keys A t := fun z => h ((seen_iff T ht).mp z)
  obtain ⟨r, hr⟩ := keys_prefix A (show t + 1 ≤ n by omega)
  rw [keys_succ, if_neg hn, List.append_assoc] at hr
  unfold anw
  rw [hr]
  exact congrArg _ (ix_new hn)
theorem anw_twin {n i : Nat} {A : Nat → Int} {g : Nat → Nat} (T : Tw n A g) (h : i < n) : anw A n (g i) = anw A n i := by
  unfold anw
  rw [T.eq i h]
theorem keys_len_succ {n t : Nat} {A : Nat → Int} {g : Nat → Nat} (T : Tw n A g) (ht : t < n) : (keys A (t + 1)).length = (keys A t).length + if g t < t then 0 else 1 := by
  rw [keys_succ]
  by_cases h : g t < t
  · rw [if_pos ((seen_iff T ht).mpr h), if_pos h]; omega
  · rw [if_neg (fun z => h ((seen_iff T ht).mp z)), if_neg h, List.length_append]; rfl
section
variable {m e : Nat} {A : Nat → Int} {g : Nat → Nat} {p q : Nat}
def rest (e p q : Nat) : List Nat := (List.range e).filter fun j => decide (j ≠ p ∧ j ≠ q)
theorem rest_mem {e p q j : Nat} : j ∈ rest e p q ↔ j < e ∧ j ≠ p ∧ j ≠ q := by
  unfold rest
  rw [List.mem_filter, List.mem_range]
  simp
theorem rest_nd {e p q : Nat} : (rest e p q).Nodup := List.nodup_range.filter _
theorem nodup_len {α : Type} [DecidableEq α] : ∀ {l r : List α}, l.Nodup → (∀ x ∈ l, x ∈ r) → l.length ≤ r.length
  | [], _, _, _ => Nat.zero_le _
  | x :: l, r, hn, h => by
    obtain ⟨h1, h2⟩ := List.nodup_cons.mp hn
    have hx : x ∈ r := h x List.mem_cons_self
    have := nodup_len (r := r.erase x) h2 fun y hy => (List.mem_erase_of_ne (show y ≠ x from fun z => h1 (by rw [← z]; exact hy))).mpr (h y (List.mem_cons_of_mem _ hy))
    rw [List.length_erase_of_mem hx] at this
    have : 0 < r.length := List.length_pos_of_mem hx
    rw [List.length_cons]
    omega
theorem nd_inj {α : Type} : ∀ {l : List α}, l.Nodup → ∀ {i j : Nat} (hi : i < l.length) (hj : j < l.length), l[i] = l[j] → i = j
  | x :: l, hn, 0, 0, _, _, _ => rfl
  | x :: l, hn, 0, j + 1, _, hj, h => absurd (show x ∈ l by rw [show x = l[j]'(by simpa using hj) from h]; exact List.getElem_mem _) (List.nodup_cons.mp hn).1
  | x :: l, hn, i + 1, 0, hi, _, h => absurd (show x ∈ l by rw [show x = l[i]'(by simpa using hi) from h.symm]; exact List.getElem_mem _) (List.nodup_cons.mp hn).1
  | x :: l, hn, i + 1, j + 1, hi, hj, h => congrArg (· + 1) (nd_inj (List.nodup_cons.mp hn).2 (i := i) (j := j) (by simpa using hi) (by simpa using hj) (by simpa using h))
theorem rest_len {e p q : Nat} (hp : p < e) (hq : q < e) (h : p ≠ q) : (rest e p q).length + 2 = e := by
  have h1 : (p :: q :: rest e p q).length ≤ (List.range e).length := by
    refine nodup_len ?_ ?_
    · refine List.nodup_cons.mpr ⟨?_, List.nodup_cons.mpr ⟨?_, rest_nd⟩⟩
      · intro z
        rcases List.mem_cons.mp z with z | z
        · exact h z
        · exact (rest_mem.mp z).2.1 rfl
      · intro z
        exact (rest_mem.mp z).2.2 rfl
    · intro x hx
      rcases List.mem_cons.mp hx with z | hx
      · rw [z]; exact List.mem_range.mpr hp
      · rcases List.mem_cons.mp hx with z | hx
        · rw [z]; exact List.mem_range.mpr hq
        · exact List.mem_range.mpr (rest_mem.mp hx).1
  have h2 : (List.range e).length ≤ (p :: q :: rest e p q).length := by
    refine nodup_len List.nodup_range fun x hx => ?_
    by_cases e1 : x = p
    · rw [e1]; exact List.mem_cons_self
    · by_cases e2 : x = q
      · rw [e2]; exact List.mem_cons_of_mem _ List.mem_cons_self
      · exact List.mem_cons_of_mem _ (List.mem_cons_of_mem _ (rest_mem.mpr ⟨List.mem_range.mp hx, e1, e2⟩))
  rw [List.length_range, List.length_cons, List.length_cons] at h1 h2
  omega
def old (m e p q i : Nat) : Nat := if i < 4 * m then i else 4 * m + (rest e p q).getD (i - 4 * m) 0
def tie (g : Nat → Nat) (a b x : Nat) : Nat := if x = g a then g b else if x = g b then g a else g x
theorem old_in {i : Nat} (h : i < 4 * m) : old m e p q i = i := if_pos h
theorem old_out {j : Nat} : old m e p q (4 * m + j) = 4 * m + (rest e p q).getD j 0 := by
  unfold old
  rw [if_neg (by omega), show 4 * m + j - 4 * m = j by omega]
theorem rest_get {j : Nat} (h : j < (rest e p q).length) : (rest e p q).getD j 0 < e ∧ (rest e p q).getD j 0 ≠ p ∧ (rest e p q).getD j 0 ≠ q := by
  rw [List.getD_eq_getElem?_getD, List.getElem?_eq_getElem h]
  exact rest_mem.mp (List.getElem_mem h)
theorem old_lt {i : Nat} (h : i < 4 * m + (rest e p q).length) : old m e p q i < 4 * m + e ∧ old m e p q i ≠ 4 * m + p ∧ old m e p q i ≠ 4 * m + q := by
  by_cases hi : i < 4 * m
  · rw [old_in hi]; exact ⟨by omega, by omega, by omega⟩
  · obtain ⟨j, rfl⟩ : ∃ j, i = 4 * m + j := ⟨i - 4 * m, by omega⟩
    rw [old_out]
    obtain ⟨h1, h2, h3⟩ := rest_get (e := e) (p := p) (q := q) (j := j) (by omega)
    exact ⟨by omega, by omega, by omega⟩
theorem old_inj {i j : Nat} (hi : i < 4 * m + (rest e p q).length) (hj : j < 4 * m + (rest e p q).length) (h : old m e p q i = old m e p q j) : i = j := by
  by_cases h1 : i < 4 * m
  · by_cases h2 : j < 4 * m
    · rwa [old_in h1, old_in h2] at h
    · obtain ⟨k, rfl⟩ : ∃ k, j = 4 * m + k := ⟨j - 4 * m, by omega⟩
      rw [old_in h1, old_out] at h
      omega
  · obtain ⟨k, rfl⟩ : ∃ k, i = 4 * m + k := ⟨i - 4 * m, by omega⟩
    by_cases h2 : j < 4 * m
    · rw [old_in h2, old_out] at h
      omega
    · obtain ⟨l, rfl⟩ : ∃ l, j = 4 * m + l := ⟨j - 4 * m, by omega⟩
      rw [old_out, old_out] at h
      have hk : k < (rest e p q).length := by omega
      have hl : l < (rest e p q).length := by omega
      rw [List.getD_eq_getElem?_getD, List.getD_eq_getElem?_getD, List.getElem?_eq_getElem hk, List.getElem?_eq_getElem hl] at h
      have h' : (rest e p q)[k] = (rest e p q)[l] := by simpa using h
      have := nd_inj rest_nd hk hl h'
      omega
theorem old_onto {x : Nat} (h : x < 4 * m + e) (h1 : x ≠ 4 * m + p) (h2 : x ≠ 4 * m + q) : ∃ i, i < 4 * m + (rest e p q).length ∧ old m e p q i = x := by
  by_cases hx : x < 4 * m
  · exact ⟨x, by omega, old_in hx⟩
  · obtain ⟨j, rfl⟩ : ∃ j, x = 4 * m + j := ⟨x - 4 * m, by omega⟩
    obtain ⟨k, hk, e'⟩ := List.getElem_of_mem (rest_mem.mpr (⟨by omega, by omega, by omega⟩ : j < e ∧ j ≠ p ∧ j ≠ q))
    refine ⟨4 * m + k, by omega, ?_⟩
    rw [old_out, List.getD_eq_getElem?_getD, List.getElem?_eq_getElem hk, e']
    rfl
def cal (A : Nat → Int) (a b : Nat) (x : Nat) : Int := if A x = A a then A b else A x
theorem tie_spec {n a b : Nat} (T : Tw n A g) (ha : a < n) (hb : b < n) (hab : a ≠ b) {x : Nat} (hx : x < n) (h1 : x ≠ a) (h2 : x ≠ b) :
    tie g a b x < n ∧ tie g a b x ≠ a ∧ tie g a b x ≠ b ∧ tie g a b x ≠ x ∧ cal A a b (tie g a b x) = cal A a b x ∧ ∀ y, y < n → y ≠ a → y ≠ b → cal A a b y = cal A a b x → y = x ∨ y = tie g a b x := by
  have gga := T.inv ha
  have ggb := T.inv hb
  have ggx := T.inv hx
  have gna := T.ne a ha
  have gnb := T.ne b hb
  have gnx := T.ne x hx
  have la := T.lt a ha
  have lb := T.lt b hb
  have lx := T.lt x hx
  have ea := T.eq a ha
  have eb := T.eq b hb
  have ex := T.eq x hx
  have inj : ∀ y z, y < n → z < n → g y = g z → y = z := fun y z hy hz h => by rw [← T.inv hy, h, T.inv hz]
  have oa := fun y hy => T.only a y ha hy
  have ob := fun y hy => T.only b y hb hy
  have ox := fun y hy => T.only x y hx hy
  unfold tie cal
  by_cases c1 : x = g a
  · -- x was tied to a
    have hxb : g b ≠ a := fun z => h2 (by rw [c1, ← z, ggb])
    have hAx : A x = A a := by rw [c1, ea]
    have hAb : A b ≠ A a := fun z => by
      rcases oa b hb z with z | z
      · exact hab z.symm
      · exact h2 (by rw [c1, z])
    rw [if_pos c1, eb, if_neg hAb, if_pos hAx]
    refine ⟨lb, hxb, gnb, fun z => ?_, rfl, fun y hy y1 y2 hq => ?_⟩
    · rw [c1] at z
      exact hab (inj a b ha hb z.symm)
    · by_cases hya : A y = A a
      · rcases oa y hy hya with z | z
        · exact absurd z y1
        · exact .inl (by rw [z, c1])
      · rw [if_neg hya] at hq
        rcases ob y hy hq with z | z
        · exact absurd z y2
        · exact .inr z
  · rw [if_neg c1]
    have hAx : A x ≠ A a := fun z => by
      rcases oa x hx z with z | z
      · exact h1 z
      · exact c1 z
    by_cases c2 : x = g b
    · have hxa : g a ≠ b := fun z => h1 (by rw [c2, ← z, gga])
      have hAb : A x = A b := by rw [c2, eb]
      rw [if_pos c2, ea, if_pos rfl, if_neg hAx]
      refine ⟨la, gna, hxa, fun z => c1 z.symm, hAb.symm, fun y hy y1 y2 hq => ?_⟩
      by_cases hya : A y = A a
      · rcases oa y hy hya with z | z
        · exact absurd z y1
        · exact .inr z
      · rw [if_neg hya] at hq
        rcases ox y hy hq with z | z
        · exact .inl z
        · rw [c2, ggb] at z
          exact absurd z y2
    · rw [if_neg c2, ex, if_neg hAx]
      have hAb : A x ≠ A b := fun z => by
        rcases ob x hx z with z | z
        · exact h2 z
        · exact c2 z
      refine ⟨lx, fun z => c1 (by rw [← z, ggx]), fun z => c2 (by rw [← z, ggx]), gnx, rfl, fun y hy y1 y2 hq => ?_⟩
      by_cases hya : A y = A a
      · rw [if_pos hya] at hq
        exact absurd hq.symm hAb
      · rw [if_neg hya] at hq
        exact ox y hy hq
theorem shut_tw (T : Tw (4 * m + e) A g) (hp : p < e) (hq : q < e) (hpq : p ≠ q) :
    ∃ h : Nat → Nat, Tw (4 * m + (rest e p q).length) (fun i => cal A (4 * m + p) (4 * m + q) (old m e p q i)) h ∧ ∀ i, i < 4 * m + (rest e p q).length → old m e p q (h i) = tie g (4 * m + p) (4 * m + q) (old m e p q i) := by
  have key : ∀ i, ∃ j, i < 4 * m + (rest e p q).length → j < 4 * m + (rest e p q).length ∧ old m e p q j = tie g (4 * m + p) (4 * m + q) (old m e p q i) := fun i => by
    by_cases hi : i < 4 * m + (rest e p q).length
    · obtain ⟨a1, a2, a3⟩ := old_lt (m := m) hi
      obtain ⟨b1, b2, b3, _⟩ := tie_spec T (show 4 * m + p < 4 * m + e by omega) (show 4 * m + q < 4 * m + e by omega) (by omega) a1 a2 a3
      obtain ⟨j, hj, ej⟩ := old_onto b1 b2 b3
      exact ⟨j, fun _ => ⟨hj, ej⟩⟩
    · exact ⟨0, fun z => absurd z hi⟩
  obtain ⟨h, hh⟩ := Classical.skolem.mp key
  refine ⟨h, ⟨fun i hi => (hh i hi).1, fun i hi z => ?_, fun i hi => ?_, fun i k hi hk hc => ?_⟩, fun i hi => (hh i hi).2⟩
  · obtain ⟨a1, a2, a3⟩ := old_lt (m := m) hi
    obtain ⟨b1, b2, b3, b4, _⟩ := tie_spec T (show 4 * m + p < 4 * m + e by omega) (show 4 * m + q < 4 * m + e by omega) (by omega) a1 a2 a3
    rw [← (hh i hi).2, z] at b4
    exact b4 rfl
  · obtain ⟨a1, a2, a3⟩ := old_lt (m := m) hi
    obtain ⟨b1, b2, b3, b4, b5, _⟩ := tie_spec T (show 4 * m + p < 4 * m + e by omega) (show 4 * m + q < 4 * m + e by omega) (by omega) a1 a2 a3
    show cal A _ _ (old m e p q (h i)) = _
    rw [(hh i hi).2, b5]
  · obtain ⟨a1, a2, a3⟩ := old_lt (m := m) hi
    obtain ⟨k1, k2, k3⟩ := old_lt (m := m) hk
    obtain ⟨b1, b2, b3, b4, b5, b6⟩ := tie_spec T (show 4 * m + p < 4 * m + e by omega) (show 4 * m + q < 4 * m + e by omega) (by omega) a1 a2 a3
    rcases b6 _ k1 k2 k3 hc with z | z
    · exact .inl (old_inj hk hi z)
    · rw [← (hh i hi).2] at z
      exact .inr (old_inj hk (hh i hi).1 z)
end
end M
set_option Elab.async false
set_option linter.all false
set_option maxRecDepth 100000
set_option maxHeartbeats 4000000
namespace K57
open PySem PySem.Spec L2 PV
open PyProof.Rows (envOfC)
def top (i : Nat) : Stmt := PySem.Challenge.pw_tanglehouse_k57_whole_glued_in_either_or.main.body.getD i (.Pass ⟨0, 0, 0, 0⟩)
structure Bn (mg : Str → Option Value) : Prop where
  nb_enumerate : mg "enumerate" = none
  nb_int : mg "int" = none
  nb_len : mg "len" = none
  nb_list : mg "list" = none
  nb_max : mg "max" = none
  nb_min : mg "min" = none
  nb_range : mg "range" = none
  nb_tuple : mg "tuple" = none
  c_RIM : ∃ t : Tok, mg "RIM" = some (.int (-1) t)
def g_law_take : GI := fun ds k => ∃ c n b, ds = [rowD c n, .int b] ∧ 0 < b ∧ b < 1073741824 ∧ 0 ≤ n ∧ n ≤ 1000000 ∧ ∀ c' r, 0 ≤ r → r < b → k (.int r) (rowD c' (n + 1))
abbrev s__law_take : Stmt := top 15
theorem sc__law_take : FnScope ["_law_row", "_law_base", "_law_rest", "_law_number"] ["_law_row", "_law_base"] (defScope s__law_take) := ⟨rfl, rfl, rfl, by decide +kernel, rfl, by decide +kernel, by decide +kernel⟩
def t__law_take : Tg := ⟨fun i => i == 0 || i == 2 || i == 3, [0]⟩
def w__law_take : WS := (wSeq (wSetIx 0 (wBin dAddT (wBin dIx (wVar 0) (wC (.int 1))) (wC (.int 1))) (wC (.int 1)))
  (wSeq (wIf (wBl (wBin (dCmp fun i j => decide (j < i)) (wBin dIx (wVar 0) (wC (.int 0))) (wBin dPow (wC (.int 10)) (wC (.int 18))))) (wSeq (wSet 2 (wBin dSub (wBin dIx (wVar 0) (wC (.int 0))) (wBin dPow (wC (.int 10)) (wC (.int 18)))))
  (wSeq (wSetIx 0 (wBin dAddT (wBin dPow (wC (.int 10)) (wC (.int 18))) (wBin dDiv (wVar 2) (wVar 1))) (wC (.int 0)))
  (wRet (wBin dMod (wVar 2) (wVar 1))))) wNext)
  (wSeq (wSet 3 (wBin dMod (wBin dAddT (wBin dAddT (wBin dMul (wBin dIx (wVar 0) (wC (.int 0))) (wC (.int 48271))) (wBin dMul (wBin dMul (wC (.int 7919)) (wBin dIx (wVar 0) (wC (.int 1)))) (wBin dIx (wVar 0) (wC (.int 1))))) (wC (.int 11))) (wC (.int 2147483629))))
  (wSeq (wSet 3 (wBin dMod (wBin dAddT (wBin dAddT (wBin dMul (wVar 3) (wVar 3)) (wBin dMul (wC (.int 69621)) (wBin dIx (wVar 0) (wC (.int 1))))) (wC (.int 7))) (wC (.int 2147483587))))
  (wRet (wBin dMod (wBin dDiv (wVar 3) (wC (.int 5))) (wVar 1)))))))
theorem b__law_take {P : Program} {w : World} {K : PySem.W.Frag} {mg : Str → Option Value} {base : Heap} {f : Addr} (B : Bn mg) : ∀ (cdv : Value) (A : Around) (outer : List PySem.Env) (s : Shared) (H : Hp) (E : XK), Room 0 (A.deeper (envOfC "_law_take" (defScope s__law_take) s.heap.objs.size f cdv)) → SVs (cxOf CX0 P w K mg base ["_law_row", "_law_base", "_law_rest", "_law_number"] "_law_take" (defScope s__law_take) f cdv A outer s H E).nox t__law_take (defBody s__law_take) w__law_take := fun cdv A outer s H E hr =>
    (svs_cons (sv_setIx (i := 0) (hu_of hr) (ev_op od_addT (ev_ix (xd_ix (hu_of hr)) (ev_var 0) ev_int) ev_int) ev_int)
    (svs_cons (sv_if (tv_cmp od_gt (ev_ix (xd_ix (hu_of hr)) (ev_var 0) ev_int) (ev_op od_pow ev_int ev_int)) (svs_cons (sv_set (i := 2) (ev_op od_sub (ev_ix (xd_ix (hu_of hr)) (ev_var 0) ev_int) (ev_op od_pow ev_int ev_int)) sc__law_take.nd)
    (svs_cons (sv_setIx (i := 0) (hu_of hr) (ev_op od_addT (ev_op od_pow ev_int ev_int) (ev_op od_div (ev_var 2) (ev_var 1))) ev_int)
    (svs_one (sv_ret (ev_op od_mod (ev_var 2) (ev_var 1)))))) svs_nil)
    (svs_cons (sv_set (i := 3) (ev_op od_mod (ev_op od_addT (ev_op od_addT (ev_op od_mul (ev_ix (xd_ix (hu_of hr)) (ev_var 0) ev_int) ev_int) (ev_op od_mul (ev_op od_mul ev_int (ev_ix (xd_ix (hu_of hr)) (ev_var 0) ev_int)) (ev_ix (xd_ix (hu_of hr)) (ev_var 0) ev_int))) ev_int) ev_int) sc__law_take.nd)
    (svs_cons (sv_set (i := 3) (ev_op od_mod (ev_op od_addT (ev_op od_addT (ev_op od_mul (ev_var 3) (ev_var 3)) (ev_op od_mul ev_int (ev_ix (xd_ix (hu_of hr)) (ev_var 0) ev_int))) ev_int) ev_int) sc__law_take.nd)
    (svs_one (sv_ret (ev_op od_mod (ev_op od_div (ev_var 3) ev_int) (ev_var 1))))))))
theorem ok__law_take {P : Program} {w : World} {K : PySem.W.Frag} {mg : Str → Option Value} {base : Heap} {f : Addr} {fd : FuncData} (F : Fun K "_law_take" "_law_take" s__law_take f fd) (B : Bn mg) : FnOk P w K mg base CX0 1 f fd ["_law_row", "_law_base"] (spI K 0 g_law_take) := by
  refine fn_io (T := t__law_take) F sc__law_take rfl rfl (fun ds kk h => ?_) (b__law_take B) (fun ds kk h => ?_)
  · obtain ⟨c, n, b, rfl, _⟩ := h
    exact ⟨rfl, _, rfl, rfl⟩
  · obtain ⟨c, n, b, rfl, hb, hb2, hn, hn2, k⟩ := h
    have hn1 : -18446744073709551616 < n + 1 := by omega
    have hn2' : n + 1 < 18446744073709551616 := by omega
    simp only [w__law_take, wSeq, wSetIx, wBin, env0, rowD, List.map_cons, List.map_nil, List.length_cons, List.length_nil, Nat.zero_add, Nat.reduceAdd, List.replicate, List.cons_append, List.nil_append, wC, wIf, wSet, wRet, r_var, Int.reduceLE, Int.reduceNeg, Int.reduceLT, r_powP, Int.reduceToNat, Int.reducePow, wNext, r_bl, look, Option.isSome_some, List.set_cons_zero, List.set_cons_succ, oget_s, true_and, r_setL, Nat.lt_add_one, ixN_1, List.length_set, Nat.zero_lt_succ, ixN_0, r_flL, r_ixL, atI_0, atI_1, List.getElem?_cons_zero, pureL, Bool.and_true, r_sub, hb, r_modP, hb2, r_divP, r2_add, D.pure, Bool.true_and, List.getElem?_cons_succ, r_mulB, r_cmp, r_blOf, r_mulA, hn1, hn2']
    split
    · exact k _ _ (Int.emod_nonneg _ (by omega)) (Int.emod_lt_of_pos _ hb)
    · have hx : -18446744073709551616 < (c * 48271 + 7919 * (n + 1) * (n + 1) + 11) % 2147483629 ∧ (c * 48271 + 7919 * (n + 1) * (n + 1) + 11) % 2147483629 < 18446744073709551616 := by omega
      generalize (c * 48271 + 7919 * (n + 1) * (n + 1) + 11) % 2147483629 = x at hx
      simp only [Int.reduceNeg, hx.1, hx.2, r_mulA, r2_add, Int.reduceLT, r_modP, r_divP, hb]
      exact k _ _ (Int.emod_nonneg _ (by omega)) (Int.emod_lt_of_pos _ hb)
def arcF (r l p : Int) : D → D
  | .int i => .int ((r + i * l) % p)
  | d => d
def g_law_arcs : GI := fun ds k => ∃ (c n : Int) (q : Nat), ds = [rowD c n, .int q] ∧ q ≤ 100 ∧ 0 ≤ n ∧ n ≤ 999990 ∧ ∀ (c' : Int) (xs : List Int), xs.length = q → xs.Nodup → (∀ x ∈ xs, 0 ≤ x ∧ x < 1000000000) → k (.lst (xs.map .int)) (rowD c' (n + 3))
abbrev s__law_arcs : Stmt := top 16
theorem sc__law_arcs : FnScope ["_law_row", "_law_many", "_law_prime", "_law_leap", "_law_offset"] ["_law_row", "_law_many"] (defScope s__law_arcs) := ⟨rfl, rfl, rfl, by decide +kernel, rfl, by decide +kernel, by decide +kernel⟩
def t__law_arcs : Tg := ⟨fun i => i == 0 || i == 2 || i == 3 || i == 4, [0]⟩
def w__law_arcs : WS := (wSeq (wSet 2 (wBin dIx (wLst (wCons (wC (.int 101)) (wCons (wC (.int 10007)) (wCons (wC (.int 999999937)) wNil)))) (wCallI 0 g_law_take (wHere 0 (wCons (wC (.int 3)) wNil)))))
  (wSeq (wSet 3 (wBin dAddT (wC (.int 1)) (wCallI 0 g_law_take (wHere 0 (wCons (wBin dSub (wVar 2) (wC (.int 1))) wNil)))))
  (wSeq (wSet 4 (wCallI 0 g_law_take (wHere 0 (wCons (wVar 2) wNil))))
  (wRet (wComp (wRng1 (wCons (wVar 1) wNil)) wAll (wBin dMod (wBin dAddT (wVar 2) (wBin dMul (wVar 0) (wVar 1))) (wVar 3)) [3, 4, 2])))))
theorem b__law_arcs {P : Program} {w : World} {K : PySem.W.Frag} {mg : Str → Option Value} {base : Heap} {f : Addr} (B : Bn mg) (C__law_take : Cal P w K mg base "_law_take" 1 ["_law_row", "_law_base"] (spI K 0 g_law_take)) : ∀ (cdv : Value) (A : Around) (outer : List PySem.Env) (s : Shared) (H : Hp) (E : XK), Room 1 (A.deeper (envOfC "_law_arcs" (defScope s__law_arcs) s.heap.objs.size f cdv)) → SVs (cxOf CX0 P w K mg base ["_law_row", "_law_many", "_law_prime", "_law_leap", "_law_offset"] "_law_arcs" (defScope s__law_arcs) f cdv A outer s H E).nox t__law_arcs (defBody s__law_arcs) w__law_arcs := fun cdv A outer s H E hr =>
    (svs_cons (sv_set (i := 2) (ev_ix (xd_ix (hu_of hr)) (ev_lst (av_cons ev_int (av_cons ev_int (av_cons ev_int av_nil)))) (ev_callIC C__law_take (hr.mono (by decide)) (ai_here (i := 0) (av_cons ev_int av_nil)))) sc__law_arcs.nd)
    (svs_cons (sv_set (i := 3) (ev_op od_addT ev_int (ev_callIC C__law_take (hr.mono (by decide)) (ai_here (i := 0) (av_cons (ev_op od_sub (ev_var 2) ev_int) av_nil)))) sc__law_arcs.nd)
    (svs_cons (sv_set (i := 4) (ev_callIC C__law_take (hr.mono (by decide)) (ai_here (i := 0) (av_cons (ev_var 2) av_nil))) sc__law_arcs.nd)
    (svs_one (sv_ret (ev_compB (comp_ok [3, 4, 2] (iv_range1 B.nb_range (av_cons (ev_var 1) av_nil)) (fun _ _ _ _ _ => cv_nil) (fun _ _ _ _ _ => (ev_op od_mod (ev_op od_addT (ev_var 2) (ev_op od_mul (ev_var 0) (ev_var 1))) (ev_var 3)))) (compB_mk (defScope s__law_arcs) ["_law_row", "_law_many", "_law_prime", "_law_leap", "_law_offset"] (by decide +kernel))))))))
theorem ok__law_arcs {P : Program} {w : World} {K : PySem.W.Frag} {mg : Str → Option Value} {base : Heap} {f : Addr} {fd : FuncData} (F : Fun K "_law_arcs" "_law_arcs" s__law_arcs f fd) (B : Bn mg) (C1 : Cal P w K mg base "_law_take" 1 ["_law_row", "_law_base"] (spI K 0 g_law_take)) : FnOk P w K mg base CX0 2 f fd ["_law_row", "_law_many"] (spI K 0 g_law_arcs) := by
  refine fn_io (T := t__law_arcs) F sc__law_arcs rfl rfl (fun ds kk h => ?_) (b__law_arcs B C1) (fun ds kk h => ?_)
  · obtain ⟨c, n, q, rfl, _⟩ := h
    exact ⟨rfl, _, rfl, rfl⟩
  · obtain ⟨c, n, q, rfl, hq, hn, hn2, k⟩ := h
    simp only [w__law_arcs, wSeq, wSet, wBin, wLst, wCons, wC, wNil, List.length_cons, List.length_nil, Nat.zero_add, Nat.reduceAdd, wCallI, wHere, env0, rowD, List.map_cons, List.map_nil, List.replicate, List.cons_append, List.nil_append, look, Option.isSome_some, pureL, D.pure, Bool.and_self, List.set_cons_zero, List.set_cons_succ, Bool.and_true, wRet, r_comp, r_rng1, r_var, oget_s, r_rng1I, Int.reducePow, Int.reduceNeg, Int.toNat_natCast, true_and, r_flL]
    refine ⟨by decide, c, n, 3, rfl, by decide, by decide, hn, by omega, fun c1 r1 h1 h2 => ?_⟩
    obtain ⟨p, hat, hp⟩ : ∃ p, L2.atI [D.int 101, D.int 10007, D.int 999999937] r1 = some (.int p) ∧ isP p := by
      rcases pick3 (a := D.int 101) (b := .int 10007) (c := .int 999999937) h1 h2 with e | e | e
      · exact ⟨_, e, .inl rfl⟩
      · exact ⟨_, e, .inr (.inl rfl)⟩
      · exact ⟨_, e, .inr (.inr rfl)⟩
    have hpb : 100 < p ∧ p < 1073741824 := by rcases hp with z | z | z <;> omega
    simp only [rowD, r_flL, pureL, D.pure, Bool.and_self, Int.reduceNeg, true_and, r_ixL, hat, oget_s, r_sub]
    refine ⟨c1, n + 1, p - 1, rfl, by omega, by omega, by omega, by omega, fun c2 r2 h3 h4 => ?_⟩
    simp only [rowD, r_flL, pureL, D.pure, Bool.and_self, Int.reduceNeg, true_and, r2_add]
    refine ⟨c2, n + 1 + 1, p, rfl, by omega, by omega, by omega, by omega, fun c3 r3 h5 h6 => ?_⟩
    simp only [Int.reduceNeg, rowD]
    refine ⟨by omega, by omega, compI_map (arcF r3 (1 + r2) p) (by rw [rngD_length]; exact Nat.lt_of_le_of_lt (show _ ≤ 1000 by omega) (by decide)) (fun d hd Q' hQ => ?_) ?_⟩
    · obtain ⟨i, hi, rfl⟩ := mem_rngD hd
      have hi1 : -18446744073709551616 < 0 + (i : Int) := by omega
      have hi2 : 0 + (i : Int) < 18446744073709551616 := by omega
      have hp0 : 0 < p := by omega
      simp only [wBin, blkE, List.map_cons, look, List.map_nil, r_var, oget_s, Int.reduceNeg, hi1, hi2, r_mulA, r2_add, hp0, r_modP]
      exact hQ
    · simp only [look, oget_s, r_flL, pureL, D.pure, Bool.and_self, true_and]
      have e : (rngD 0 q).map (arcF r3 (1 + r2) p) = ((List.range q).map fun (i : Nat) => (r3 + (i : Int) * (1 + r2)) % p).map D.int := by
        simp [rngD, arcF]
      rw [e]
      have := k c3 ((List.range q).map fun (i : Nat) => (r3 + (i : Int) * (1 + r2)) % p) (by simp) (arcs_nodup hp (by omega) (by omega) (by omega)) (fun x hx => by
        obtain ⟨i, _, rfl⟩ := List.mem_map.mp hx
        refine ⟨Int.emod_nonneg _ (by omega), Int.lt_of_lt_of_le (Int.emod_lt_of_pos _ (by omega)) (by rcases hp with z | z | z <;> omega)⟩)
      simpa [rowD, Int.add_assoc] using this
def g_law_web : GI := fun ds k => ∃ (c n : Int) (m e : Nat) (mo : Int), ds = [rowD c n, .int m, .int e, .int mo] ∧ m ≤ 40 ∧ e ≤ 12 ∧ e % 2 = 0 ∧ 0 ≤ n ∧ n ≤ 900000 ∧
  ∀ (c' n' : Int) (A : Nat → Int) (g : Nat → Nat) (r : Int), M.Tw (4 * m + e) A g → (∀ i, 0 ≤ A i ∧ A i < 1000000000) → (r = 0 ∨ r = 1 ∨ r = 2 ∨ r = mo) → n ≤ n' → n' ≤ n + 1000 → k (webD m e A r) (rowD c' n')
abbrev s__law_web : Stmt := top 17
theorem sc__law_web : FnScope ["_law_row", "_law_many", "_law_ends", "_law_most", "_law_arcs_here", "_law_left", "_law_near", "_law_arc", "_law_crossings"] ["_law_row", "_law_many", "_law_ends", "_law_most"] (defScope s__law_web) := ⟨rfl, rfl, rfl, by decide +kernel, rfl, by decide +kernel, by decide +kernel⟩
def t__law_web : Tg := ⟨fun i => i == 0 || i == 4 || i == 5 || i == 6 || i == 7 || i == 8, [0]⟩
def w__law_web : WS := (wSeq (wSet 4 (wBin dMul (wLst (wCons (wC (.int 0)) wNil)) (wBin dAddT (wBin dMul (wC (.int 4)) (wVar 1)) (wVar 2))))
  (wSeq (wSet 5 (wCall dRange (wCons (wBin dAddT (wBin dMul (wC (.int 4)) (wVar 1)) (wVar 2)) wNil)))
  (wSeq (wSet 6 (wBin dIx (wLst (wCons (wC (.int 99)) (wCons (wC (.int 1)) (wCons (wC (.int 3)) (wCons (wC (.int 99)) wNil))))) (wCallI 0 g_law_take (wHere 0 (wCons (wC (.int 4)) wNil)))))
  (wSeq (wFor (wSeqD (wCallI 0 g_law_arcs (wHere 0 (wCons (wBin dAddT (wBin dMul (wC (.int 2)) (wVar 1)) (wBin dDiv (wVar 2) (wC (.int 2)))) wNil)))) (gN 7) (wSeq (wSetIx 4 (wVar 7) (wMt 5 "list" gPopAt (wCons (wC (.int 0)) wNil)))
  (wSetIx 4 (wVar 7) (wMt 5 "list" gPopAt (wCons (wCallI 0 g_law_take (wHere 0 (wCons (wCall dMin2 (wCons (wVar 6) (wCons (wCall dLen (wCons (wVar 5) wNil)) wNil))) wNil))) wNil)))))
  (wSeq (wSet 8 (wComp (wRng1 (wCons (wVar 1) wNil)) wAll (wCall dTuple (wCons (wSlT (wVar 1) (wSome (wBin dMul (wC (.int 4)) (wVar 0))) (wSome (wBin dAddT (wBin dMul (wC (.int 4)) (wVar 0)) (wC (.int 4))))) wNil)) [4]))
  (wRet (wTup (wCons (wCall dTuple (wCons (wVar 8) wNil)) (wCons (wCall dTuple (wCons (wSlT (wVar 4) (wSome (wBin dMul (wC (.int 4)) (wVar 1))) wNone) wNil)) (wCons (wBin dIx (wLst (wCons (wC (.int 0)) (wCons (wC (.int 1)) (wCons (wC (.int 2)) (wCons (wLift (wVar 3)) wNil))))) (wCallI 0 g_law_take (wHere 0 (wCons (wC (.int 4)) wNil)))) wNil))))))))))
theorem b__law_web {P : Program} {w : World} {K : PySem.W.Frag} {mg : Str → Option Value} {base : Heap} {f : Addr} (B : Bn mg) (C__law_take : Cal P w K mg base "_law_take" 1 ["_law_row", "_law_base"] (spI K 0 g_law_take)) (C__law_arcs : Cal P w K mg base "_law_arcs" 2 ["_law_row", "_law_many"] (spI K 0 g_law_arcs)) : ∀ (cdv : Value) (A : Around) (outer : List PySem.Env) (s : Shared) (H : Hp) (E : XK), Room 2 (A.deeper (envOfC "_law_web" (defScope s__law_web) s.heap.objs.size f cdv)) → SVs (cxOf CX0 P w K mg base ["_law_row", "_law_many", "_law_ends", "_law_most", "_law_arcs_here", "_law_left", "_law_near", "_law_arc", "_law_crossings"] "_law_web" (defScope s__law_web) f cdv A outer s H E).nox t__law_web (defBody s__law_web) w__law_web := fun cdv A outer s H E hr =>
    (svs_cons (sv_set (i := 4) (ev_op od_mul (ev_lst (av_cons ev_int av_nil)) (ev_op od_addT (ev_op od_mul ev_int (ev_var 1)) (ev_var 2))) sc__law_web.nd)
    (svs_cons (sv_set (i := 5) (ev_listRange B.nb_range B.nb_list (av_cons (ev_op od_addT (ev_op od_mul ev_int (ev_var 1)) (ev_var 2)) av_nil)) sc__law_web.nd)
    (svs_cons (sv_set (i := 6) (ev_ix (xd_ix (hu_of hr)) (ev_lst (av_cons ev_int (av_cons ev_int (av_cons ev_int (av_cons ev_int av_nil))))) (ev_callIC C__law_take (hr.mono (by decide)) (ai_here (i := 0) (av_cons ev_int av_nil)))) sc__law_web.nd)
    (svs_cons (sv_for PassesOwn.never (iv_seq (ev_callIC C__law_arcs (hr.mono (by decide)) (ai_here (i := 0) (av_cons (ev_op od_addT (ev_op od_mul ev_int (ev_var 1)) (ev_op od_div (ev_var 2) ev_int)) av_nil)))) (gv_name (i := 7) sc__law_web.nd) (svs_cons (sv_setIx (i := 4) (hu_of hr) (ev_var 7) (ev_mt (i := 5) md_popAt PySem.F.plainAttrs_list PySem.F.slot_list_pop PySem.F.type_list_pop (av_cons ev_int av_nil)))
    (svs_one (sv_setIx (i := 4) (hu_of hr) (ev_var 7) (ev_mt (i := 5) md_popAt PySem.F.plainAttrs_list PySem.F.slot_list_pop PySem.F.type_list_pop (av_cons (ev_callIC C__law_take (hr.mono (by decide)) (ai_here (i := 0) (av_cons (ev_callB (cd_min2 rfl) B.nb_min bt_min (av_cons (ev_var 6) (av_cons (ev_callB cd_len B.nb_len bt_len (av_cons (ev_var 5) av_nil)) av_nil))) av_nil))) av_nil))))))
    (svs_cons (sv_compB (j := 8) (comp_ok [4] (iv_range1 B.nb_range (av_cons (ev_var 1) av_nil)) (fun _ _ _ _ _ => cv_nil) (fun _ _ _ _ _ => (ev_callTy cd_tuple B.nb_tuple bt_tuple (av_cons (ev_slT (ev_var 1) (ov_some (ev_op od_mul ev_int (ev_var 0))) (ov_some (ev_op od_addT (ev_op od_mul ev_int (ev_var 0)) ev_int))) av_nil)))) (compB_mk (defScope s__law_web) ["_law_row", "_law_many", "_law_ends", "_law_most", "_law_arcs_here", "_law_left", "_law_near", "_law_arc", "_law_crossings"] (by decide +kernel)) sc__law_web.nd)
    (svs_one (sv_ret (ev_tup (av_cons (ev_callTy cd_tuple B.nb_tuple bt_tuple (av_cons (ev_var 8) av_nil)) (av_cons (ev_callTy cd_tuple B.nb_tuple bt_tuple (av_cons (ev_slT (ev_var 4) (ov_some (ev_op od_mul ev_int (ev_var 1))) ov_none) av_nil)) (av_cons (ev_ix (xd_ix (hu_of hr)) (ev_lst (av_cons ev_int (av_cons ev_int (av_cons ev_int (av_cons (ev_lift (ev_var 3)) av_nil))))) (ev_callIC C__law_take (hr.mono (by decide)) (ai_here (i := 0) (av_cons ev_int av_nil)))) av_nil)))))))))))
theorem ok__law_web {P : Program} {w : World} {K : PySem.W.Frag} {mg : Str → Option Value} {base : Heap} {f : Addr} {fd : FuncData} (F : Fun K "_law_web" "_law_web" s__law_web f fd) (B : Bn mg) (C1 : Cal P w K mg base "_law_take" 1 ["_law_row", "_law_base"] (spI K 0 g_law_take)) (C2 : Cal P w K mg base "_law_arcs" 2 ["_law_row", "_law_many"] (spI K 0 g_law_arcs)) :
    FnOk P w K mg base CX0 3 f fd ["_law_row", "_law_many", "_law_ends", "_law_most"] (spI K 0 g_law_web) := by
  refine fn_io (T := t__law_web) F sc__law_web rfl rfl (fun ds kk h => ?_) (b__law_web B C1 C2) (fun ds kk h => ?_)
  · obtain ⟨c, n, m, e, mo, rfl, _⟩ := h
    exact ⟨rfl, _, rfl, rfl⟩
  · obtain ⟨c, n, m, e, mo, rfl, hm, he, he2, hn, hn2, k⟩ := h
    simp only [w__law_web, wSeq, wSet, wBin, wLst, wCons, wC, wNil, List.length_cons, List.length_nil, Nat.zero_add, env0, rowD, List.map_cons, List.map_nil, Nat.reduceAdd, List.replicate, List.cons_append, List.nil_append, wCall, wCallI, wHere, pureL, D.pure, Bool.and_self, r_for, r_seq, Bool.and_true, r_var, true_and, look, List.set_cons_succ, List.set_cons_zero, Option.isSome_some, oget_s, Int.reduceLT, r_divP, Int.reduceNeg, r_mulA, r2_add, r_flL, r_range, r_mulL, Int.reducePow]
    have hN : (4 * (m : Int) + (e : Int)).toNat = 4 * m + e := by omega
    have e1 : (List.replicate (4 * (m : Int) + (e : Int)).toNat [D.int 0]).flatten = (List.replicate (4 * m + e) (0 : Int)).map D.int := by rw [hN]; simp
    have e2 : rngD 0 (4 * (m : Int) + (e : Int)).toNat = (List.range (4 * m + e)).map fun (i : Nat) => D.int (i : Int) := by rw [hN]; simp [rngD]
    have big : ∀ n : Nat, n ≤ 1000 → n < sizeLine := fun n h => Nat.lt_of_le_of_lt h (by decide)
    rw [e1, e2]
    refine ⟨by decide, by omega, by omega, by rw [hN]; exact Nat.le_of_lt (big _ (by omega)), by omega, by omega, by decide, c, n, 4, rfl, by decide, by decide, hn, by omega, fun c0 r0 z1 z2 => ?_⟩
    obtain ⟨near, hnear, hn1, hn99⟩ : ∃ p, L2.atI [D.int 99, D.int 1, D.int 3, D.int 99] r0 = some (.int p) ∧ 1 ≤ p ∧ p ≤ 99 := by
      rcases pick4 (a := D.int 99) (b := .int 1) (c := .int 3) (d := .int 99) z1 z2 with q | q | q | q
      · exact ⟨_, q, by decide, by decide⟩
      · exact ⟨_, q, by decide, by decide⟩
      · exact ⟨_, q, by decide, by decide⟩
      · exact ⟨_, q, by decide, by decide⟩
    simp only [rowD, r_flL, pureL, D.pure, Bool.and_self, true_and, r_ixL, hnear, oget_s]
    refine ⟨c0, n + 1, 2 * m + e / 2, by simp [rowD], by omega, by omega, by omega, fun c1 xs hl nd hxs => ?_⟩
    simp only [rowD, r_seqL]
    refine ⟨pure_ints, fun t ρ => ∃ (c' n' : Int) (L : List Nat) (Bs : List Int) (ps : List (Nat × Nat)) (o : Option D), ρ = [some (rowD c' n'), some (.int m), some (.int e), some (.int mo), some (.lst (Bs.map D.int)), some (.lst (L.map fun (i : Nat) => D.int (i : Int))), some (.int near), o, none] ∧ Pr (4 * m + e) xs t L Bs ps ∧ L.length = 4 * m + e - 2 * t ∧ n' = n + 4 + t ∧ t ≤ xs.length ∧ ∀ b ∈ Bs, 0 ≤ b ∧ b < 1000000000,
      ⟨c1, n + 1 + 3, List.range (4 * m + e), List.replicate (4 * m + e) 0, [], none, rfl, Pr.start _ _, by simp, by simp; omega, Nat.zero_le _, fun b hb => by rw [(List.mem_replicate.mp hb).2]; decide⟩, ?_, ?_⟩
    · rintro t d ρ hd ⟨c', n', L, Bs, ps, o, rfl, hp, hL, hn', ht, hB⟩
      obtain ⟨x, hx, rfl⟩ : ∃ x, xs[t]? = some x ∧ d = .int x := by
        rw [List.getElem?_map] at hd
        cases q : xs[t]? with
        | none => rw [q] at hd; cases hd
        | some x => rw [q] at hd; exact ⟨x, rfl, (Option.some.inj hd).symm⟩
      have htl := (List.getElem?_eq_some_iff.mp hx).1
      cases L with
      | nil => simp at hL; omega
      | cons i L =>
        simp only [List.length_cons] at hL
        have hi := hp.lt (List.mem_cons_self (a := i))
        have hbl := hp.bl
        have hix : ixN Bs.length (i : Int) = some i := ixN_ofNat (by omega)
        simp only [gN, wSeq, wSetIx, rowD, List.map_cons, List.set_cons_succ, List.set_cons_zero, wMt, wCons, wC, wNil, wCallI, wHere, wCall, pureL, Bool.and_true, List.nil_append, r_var, look, Option.isSome_some, r_tyL, BEq.rfl, oget_s, r_flL, D.pure, Bool.and_self, true_and, r_popAt, Int.reducePow, Int.reduceNeg, Int.reduceLE, Int.reduceLT, List.length_cons, List.length_map, Nat.zero_lt_succ, seqIx_0, r_lenL, r_min, List.getElem?_cons_zero, List.eraseIdx_cons_zero, r_setL, hix]
        have hlo : 0 < L.length := by omega
        obtain ⟨bb, hbb, hb0, hb1⟩ : ∃ bb : Int, (if (L.length : Int) < near then (L.length : Int) else near) = bb ∧ 0 < bb ∧ bb ≤ L.length := ⟨_, rfl, by split <;> omega, by split <;> omega⟩
        rw [hbb]
        refine ⟨c', n', bb, rfl, by omega, by omega, by omega, by omega, fun c2 r h1 h2 => ?_⟩
        obtain ⟨s, rfl⟩ := Int.eq_ofNat_of_zero_le h1
        have hs : s < L.length := by omega
        have hj := hp.lt (List.mem_cons_of_mem i (List.getElem_mem hs))
        have hsx : seqIndex? (s : Int) L.length = some s := seqIx_ofNat hs
        have hjx : ixN Bs.length ((L[s] : Nat) : Int) = some L[s] := ixN_ofNat (by omega)
        simp only [rowD, r_popAt, Int.reducePow, Int.reduceNeg, List.length_map, hsx, List.getElem?_map, oget_s, List.getElem?_eq_getElem hs, Option.map_some, D.pure, r_setL, List.length_set, hjx, true_and]
        refine ⟨by omega, by omega, c2, n' + 1, L.eraseIdx s, (Bs.set i x).set L[s] x, ps ++ [(i, L[s])], some (.int x), ?_, hp.step hx hs, ?_, by omega, by omega, fun b hb => ?_⟩
        · simp [rowD, List.map_set, map_erase]
        · rw [List.length_eraseIdx_of_lt hs]; omega
        · rcases List.mem_or_eq_of_mem_set hb with hb | rfl
          · rcases List.mem_or_eq_of_mem_set hb with hb | rfl
            · exact hB b hb
            · exact hxs _ (List.mem_of_getElem? hx)
          · exact hxs _ (List.mem_of_getElem? hx)
    · rintro ρ ⟨c', n', L, Bs, ps, o, rfl, hp, hL, hn', ht, hB⟩
      simp only [List.length_map] at hp hL hn' ht
      have hL0 : L = [] := List.length_eq_zero_iff.mp (by omega)
      subst hL0
      obtain ⟨g, tw⟩ := hp.tw nd
      have hbl := hp.bl
      simp only [wSeq, wSet, rowD, wRet, wTup, wCons, wCall, wNil, wSlT, wNone, wBin, wLst, wC, wLift, List.length_cons, List.length_nil, Nat.zero_add, Nat.reduceAdd, wCallI, wHere, pureL, D.pure, Bool.and_self, List.nil_append, true_and, r_var, r_some, r_comp, r_rng1, look, oget_s, r_rng1I, Int.reducePow, Int.reduceNeg, Int.toNat_natCast]
      refine ⟨by omega, by omega, compI_map (crossF Bs) (by rw [rngD_length]; exact big _ (by omega)) (fun d hd Q' hQ => ?_) ?_⟩
      · obtain ⟨i, hi, rfl⟩ := mem_rngD hd
        have hb1 : -18446744073709551616 < 0 + (i : Int) := by omega
        have hb2 : 0 + (i : Int) < 18446744073709551616 := by omega
        have q1 : 4 * (0 + (i : Int)) = ((4 * i : Nat) : Int) := by omega
        have q2 : ((4 * i : Nat) : Int) + 4 = ((4 * i + 4 : Nat) : Int) := by omega
        simp only [wCall, wCons, wSlT, blkE, List.map_nil, List.map_cons, look, wNil, r_some, wBin, wC, r_var, oget_s, Int.reduceNeg, Int.reduceLT, r_mulA, r2_add, r_intOf, r2_slL, r_tupL]
        rw [q1, q2, cut_mid (by omega) (by rw [List.length_map]; omega), show 4 * i + 4 - 4 * i = 4 by omega, drop_take_range (by omega)]
        refine ⟨pure_ints, pureL_map fun _ _ => rfl, ?_⟩
        rw [crossF_nat] at hQ
        exact hQ
      · simp only [List.set_cons_succ, List.set_cons_zero, look, Option.isSome_some, oget_s, r_flL, pureL, D.pure, Bool.and_self, true_and, Int.reduceNeg, Int.reduceLT, r_mulA, r_intOf, r2_slL, r_tupL]
        rw [crossF_map, show (4 * (m : Int)) = ((4 * m : Nat) : Int) by omega, cut_from (by rw [List.length_map]; omega)]
        have e3 : (Bs.map D.int).drop (4 * m) = (List.range e).map fun j => .int (Bs.getD (4 * m + j) 0) := by
          rw [← drop_take_range (by omega), List.take_of_length_le (by simp; omega)]
        rw [e3]
        refine ⟨pureL_map fun _ _ => by simp only [D.pure]; exact pureL_map fun _ _ => rfl, pure_ints, pureL_map fun _ _ => rfl, by decide, c', n', 4, rfl, by decide, by decide, by omega, by omega, fun c4 r4 h1 h2 => ?_⟩
        obtain ⟨p, hat, hp4⟩ : ∃ p, L2.atI [D.int 0, D.int 1, D.int 2, D.int mo] r4 = some (.int p) ∧ (p = 0 ∨ p = 1 ∨ p = 2 ∨ p = mo) := by
          rcases pick4 (a := D.int 0) (b := .int 1) (c := .int 2) (d := .int mo) h1 h2 with q | q | q | q
          · exact ⟨_, q, .inl rfl⟩
          · exact ⟨_, q, .inr (.inl rfl)⟩
          · exact ⟨_, q, .inr (.inr (.inl rfl))⟩
          · exact ⟨_, q, .inr (.inr (.inr rfl))⟩
        simp only [rowD, r_flL, pureL, D.pure, Bool.and_self, true_and, r_ixL, hat, oget_s]
        exact ⟨by decide, k c4 (n' + 1) (fun i => Bs.getD i 0) g p tw (fun i => getD_all (by decide) hB i) hp4 (by omega) (by omega)⟩
end K57
set_option Elab.async false
set_option linter.all false
set_option maxRecDepth 100000
set_option maxHeartbeats 4000000
namespace K57
open PySem PySem.Spec L2 PV
open PyProof.Rows (envOfC)
theorem big {n : Nat} (h : n ≤ 1000) : n < sizeLine := Nat.lt_of_le_of_lt h (by decide)
def crD (A : Nat → Int) (k : Nat) : D := .tup ((List.range 4).map fun j => .int (A (4 * k + j)))
def g_places : GA := fun ds k => ∃ (m e : Nat) (A : Nat → Int) (r : Int), ds = [webD m e A r] ∧ m ≤ 100 ∧ e ≤ 100 ∧ k (.dik (encP (spD m) (M.plc A (4 * m + e))))
abbrev s_places : Stmt := top 2
theorem sc_places : FnScope ["web", "told", "k", "crossing", "j", "arc"] ["web"] (defScope s_places) := ⟨rfl, rfl, rfl, by decide +kernel, rfl, by decide +kernel, by decide +kernel⟩
def t_places : Tg := ⟨fun i => i == 1 || i == 2 || i == 3 || i == 4 || i == 5, []⟩
def w_places : WS := (wSeq (wSet 1 (wC (.dik [])))
  (wSeq (wFor (wEnum (wCons (wBin dIx (wVar 0) (wC (.int 0))) wNil)) (gTupD 2 (gConsD (gN 2) (gConsD (gN 3) gNilD))) (wFor (wEnum (wCons (wVar 3) wNil)) (gTupD 2 (gConsD (gN 4) (gConsD (gN 5) gNilD))) (wSda 1 (wVar 5) (wTup (wCons (wVar 2) (wCons (wVar 4) wNil))))))
  (wSeq (wFor (wEnum (wCons (wBin dIx (wVar 0) (wC (.int 1))) wNil)) (gTupD 2 (gConsD (gN 4) (gConsD (gN 5) gNilD))) (wSda 1 (wVar 5) (wTup (wCons (wC (.int (-1))) (wCons (wVar 4) wNil)))))
  (wRetS 1))))
theorem b_places {P : Program} {w : World} {K : PySem.W.Frag} {mg : Str → Option Value} {base : Heap} {f : Addr} (B : Bn mg) : ∀ (cdv : Value) (A : Around) (outer : List PySem.Env) (s : Shared) (H : Hp) (E : XK), Room 0 (A.deeper (envOfC "places" (defScope s_places) s.heap.objs.size f cdv)) → SVs (cxOf CX0 P w K mg base ["web", "told", "k", "crossing", "j", "arc"] "places" (defScope s_places) f cdv A outer s H E).nox t_places (defBody s_places) w_places := fun cdv A outer s H E hr =>
    (svs_cons (sv_set (i := 1) ev_dnewK sc_places.nd)
    (svs_cons (sv_for PassesOwn.never (iv_enum B.nb_enumerate (av_cons (ev_ix (xd_ix (hu_of hr)) (ev_var 0) ev_int) av_nil)) (gv_tup (gvs_cons (gv_name (i := 2) sc_places.nd) (gvs_cons (gv_name (i := 3) sc_places.nd) gvs_nil))) (svs_one (sv_for PassesOwn.never (iv_enum B.nb_enumerate (av_cons (ev_var 3) av_nil)) (gv_tup (gvs_cons (gv_name (i := 4) sc_places.nd) (gvs_cons (gv_name (i := 5) sc_places.nd) gvs_nil))) (svs_one (sv_sda (i := 1) (ev_var 5) (ev_tup (av_cons (ev_var 2) (av_cons (ev_var 4) av_nil))))))))
    (svs_cons (sv_for PassesOwn.never (iv_enum B.nb_enumerate (av_cons (ev_ix (xd_ix (hu_of hr)) (ev_var 0) ev_int) av_nil)) (gv_tup (gvs_cons (gv_name (i := 4) sc_places.nd) (gvs_cons (gv_name (i := 5) sc_places.nd) gvs_nil))) (svs_one (sv_sda (i := 1) (ev_var 5) (ev_tup (av_cons (ev_gint B.c_RIM.choose_spec) (av_cons (ev_var 4) av_nil))))))
    (svs_one (sv_retS (i := 1))))))
theorem pl_step {m t : Nat} {A : Nat → Int} (ht : t < 900) {P : EndsP} {ρ : PV.Env} {wk wv : WE} {a : Int} (ha : a = A t)
    (h1 : look ρ 1 = some (.dik (encP (spD m) (M.plc A t)))) (hk : ∀ Q, Q (.int a) ρ → wk ρ Q) (hv : ∀ d Q, Q (spD m t) (ρ.set 1 d) → wv (ρ.set 1 d) Q) (hn : P.nx (ρ.set 1 (some (.dik (encP (spD m) (M.plc A (t + 1))))))) : wSda 1 wk wv P ρ := by
  obtain ⟨k1, k2, _⟩ := M.plc_ok A t
  unfold wSda
  rw [h1]
  obtain ⟨l, hl, v1, v2⟩ := sda_enc (s := spD m) (P := M.plc A t) (a := a) (i := t) k1
  have hlen : l.length ≤ t := by
    rcases hl with rfl | ⟨e, he, rfl⟩
    · exact Nat.zero_le _
    · exact plc_lens A t e he
  refine ⟨?_, encP_keys k1, hk _ ?_⟩
  · have := plc_len A t
    unfold encP
    rw [List.length_map]
    exact big (by omega)
  · show oget (valD (sdNew (encP (spD m) (M.plc A t)) (.inl a)) (.inl a)) _
    rw [v1]
    refine ⟨by rw [List.length_map]; exact big (by omega), hv _ _ ⟨pure_sp, ?_⟩⟩
    rw [v2, ha, ← M.plc_succ]
    exact hn
theorem ok_places {P : Program} {w : World} {K : PySem.W.Frag} {mg : Str → Option Value} {base : Heap} {f : Addr} {fd : FuncData} (F : Fun K "places" "places" s_places f fd) (B : Bn mg) : FnOk P w K mg base CX0 1 f fd ["web"] (spR K g_places) := by
  refine fn_ro (T := t_places) F sc_places rfl (by decide) (fun ds kk h => ?_) (b_places B) (fun ds kk h => ?_)
  · obtain ⟨m, e, A, r, rfl, _⟩ := h
    rfl
  · obtain ⟨m, e, A, r, rfl, hm, he, k⟩ := h
    simp only [w_places, wSeq, wSet, wC, Int.reduceNeg, env0, webD, List.map_cons, List.map_nil, List.length_cons, List.length_nil, Nat.zero_add, Nat.reduceAdd, List.replicate, List.cons_append, List.nil_append, List.set_cons_succ, List.set_cons_zero, r_for, r_enum, wCons, wBin, wNil, r_var, look, oget_s, r_ixT, atI_0, List.getElem?_cons_zero, r_enumT]
    have pc : pureL ((List.range m).map fun k => D.tup ((List.range 4).map fun j => .int (A (4 * k + j)))) = true := pureL_map fun _ _ => by simp only [D.pure]; exact pureL_map fun _ _ => rfl
    have pe : pureL ((List.range e).map fun j => D.int (A (4 * m + j))) = true := pureL_map fun _ _ => rfl
    refine ⟨pc, pure_enum pc, fun k ρ => ∃ o2 o3 o4 o5 : Option D, ρ = [some (webD m e A r), some (.dik (encP (spD m) (M.plc A (4 * k)))), o2, o3, o4, o5], ⟨none, none, none, none, rfl⟩, ?_, ?_⟩
    · rintro i d ρ hd ⟨o2, o3, o4, o5, rfl⟩
      rw [enumD_get] at hd
      have hi : i < m := by
        cases q : ((List.range m).map fun k => D.tup ((List.range 4).map fun j => .int (A (4 * k + j))))[i]? with
        | none => rw [q] at hd; cases hd
        | some z => simpa using (List.getElem?_eq_some_iff.mp q).1
      rw [List.getElem?_map, List.getElem?_range hi] at hd
      have hd := (Option.some.inj hd).symm
      subst hd
      have pi : pureL ((List.range 4).map fun j => D.int (A (4 * i + j))) = true := pureL_map fun _ _ => rfl
      simp only [Nat.zero_add, Int.reduceNeg, r_for, r_enum, wCons, wNil, r_var, r_gTup, List.length_cons, List.length_nil, Nat.reduceAdd, r_gCons, gN, List.set_cons_succ, List.set_cons_zero, r_gNil, look, oget_s, r_enumT, true_and]
      refine ⟨pi, pure_enum pi, fun j ρ => ∃ o4 o5 : Option D, ρ = [some (webD m e A r), some (.dik (encP (spD m) (M.plc A (4 * i + j)))), some (.int (i : Int)), some (crD A i), o4, o5], ⟨o4, o5, by simp [crD]⟩, ?_, ?_⟩
      · rintro j d ρ hd ⟨o4, o5, rfl⟩
        rw [enumD_get] at hd
        have hj : j < 4 := by
          cases q : ((List.range 4).map fun j => D.int (A (4 * i + j)))[j]? with
          | none => rw [q] at hd; cases hd
          | some z => simpa using (List.getElem?_eq_some_iff.mp q).1
        rw [List.getElem?_map, List.getElem?_range hj] at hd
        have hd := (Option.some.inj hd).symm
        subst hd
        simp only [Nat.zero_add, r_gTup, List.length_cons, List.length_nil, Nat.reduceAdd, r_gCons, gN, List.set_cons_succ, List.set_cons_zero, r_gNil, true_and]
        refine pl_step (m := m) (t := 4 * i + j) (A := A) (a := A (4 * i + j)) (by omega) rfl rfl (fun Q hQ => ?_) (fun d Q hQ => ?_) ?_
        · simp only [r_var, look, oget_s]; exact hQ
        · simp only [wTup, wCons, List.set_cons_succ, List.set_cons_zero, wNil, List.length_cons, List.length_nil, Nat.zero_add, Nat.reduceAdd, r_var, look, oget_s]
          refine ⟨by decide, ?_⟩
          simpa [spD, M.sp_in hi hj] using hQ
        · exact ⟨some (.int (j : Int)), some (.int (A (4 * i + j))), by simp [Nat.add_assoc]⟩
      · rintro ρ ⟨o4, o5, rfl⟩
        have hl : (enumD 0 ((List.range 4).map fun j => D.int (A (4 * i + j)))).length = 4 := by rw [enumD_length]; simp
        exact ⟨some (.int (i : Int)), some (crD A i), o4, o5, by rw [hl, Nat.mul_add]⟩
    · rintro ρ ⟨o2, o3, o4, o5, rfl⟩
      have hl : (enumD 0 ((List.range m).map fun k => D.tup ((List.range 4).map fun j => .int (A (4 * k + j))))).length = m := by rw [enumD_length]; simp
      rw [hl]
      simp only [wSeq, Int.reduceNeg, webD, r_for, r_enum, wCons, wBin, wC, wNil, r_var, look, oget_s, r_ixT, atI_1, List.getElem?_cons_succ, List.getElem?_cons_zero, r_enumT]
      refine ⟨pe, pure_enum pe, fun j ρ => ∃ o4 o5 : Option D, ρ = [some (webD m e A r), some (.dik (encP (spD m) (M.plc A (4 * m + j)))), o2, o3, o4, o5], ⟨o4, o5, by simp [webD]⟩, ?_, ?_⟩
      · rintro j d ρ hd ⟨o4, o5, rfl⟩
        rw [enumD_get] at hd
        have hj : j < e := by
          cases q : ((List.range e).map fun j => D.int (A (4 * m + j)))[j]? with
          | none => rw [q] at hd; cases hd
          | some z => simpa using (List.getElem?_eq_some_iff.mp q).1
        rw [List.getElem?_map, List.getElem?_range hj] at hd
        have hd := (Option.some.inj hd).symm
        subst hd
        simp only [Nat.zero_add, Int.reduceNeg, r_gTup, List.length_cons, List.length_nil, Nat.reduceAdd, r_gCons, gN, List.set_cons_succ, List.set_cons_zero, r_gNil, true_and]
        refine pl_step (m := m) (t := 4 * m + j) (A := A) (a := A (4 * m + j)) (by omega) rfl rfl (fun Q hQ => ?_) (fun d Q hQ => ?_) ?_
        · simp only [r_var, look, oget_s]; exact hQ
        · simp only [wTup, wCons, wC, List.set_cons_succ, List.set_cons_zero, wNil, Int.reduceNeg, List.length_cons, List.length_nil, Nat.zero_add, Nat.reduceAdd, r_var, look, oget_s]
          refine ⟨by decide, ?_⟩
          simpa [spD, M.sp_out] using hQ
        · exact ⟨some (.int (j : Int)), some (.int (A (4 * m + j))), by simp [Nat.add_assoc]⟩
      · rintro ρ ⟨o4, o5, rfl⟩
        have hl : (enumD 0 ((List.range e).map fun j => D.int (A (4 * m + j)))).length = e := by rw [enumD_length]; simp
        rw [hl]
        simp only [wRetS, look, oget_s]
        exact k
def renF (f : Int → Int) : D → D
  | .int i => .int (f i)
  | d => d
def g_renamed : GA := fun ds k => ∃ (ns : List Int) (T : List (Key × D)) (f : Int → Int), ds = [.tup (ns.map .int), .dik T] ∧ ns.length ≤ 100 ∧ (∀ n ∈ ns, valD T (.inl n) = some (.int (f n))) ∧ k (.tup (ns.map fun n => .int (f n)))
abbrev s_renamed : Stmt := top 3
theorem sc_renamed : FnScope ["arcs", "names"] ["arcs", "names"] (defScope s_renamed) := ⟨rfl, rfl, rfl, by decide +kernel, rfl, by decide +kernel, by decide +kernel⟩
def t_renamed : Tg := ⟨fun i => false, []⟩
def w_renamed : WS := (wRet (wCall dTuple (wCons (wComp (wSeqD (wVar 0)) wAll (wLift (wBin dIx (wVar 1) (wVar 0))) [1]) wNil)))
theorem b_renamed {P : Program} {w : World} {K : PySem.W.Frag} {mg : Str → Option Value} {base : Heap} {f : Addr} (B : Bn mg) : ∀ (cdv : Value) (A : Around) (outer : List PySem.Env) (s : Shared) (H : Hp) (E : XK), Room 0 (A.deeper (envOfC "renamed" (defScope s_renamed) s.heap.objs.size f cdv)) → SVs (cxOf CX0 P w K mg base ["arcs", "names"] "renamed" (defScope s_renamed) f cdv A outer s H E).nox t_renamed (defBody s_renamed) w_renamed := fun cdv A outer s H E hr =>
    (svs_one (sv_ret (ev_callTy cd_tuple B.nb_tuple bt_tuple (av_cons (ev_compB (comp_ok [1] (iv_seq (ev_var 0)) (fun _ _ _ _ _ => cv_nil) (fun _ _ _ _ _ => (ev_lift (ev_ix (xd_ix (hu_of hr)) (ev_var 1) (ev_var 0))))) (compB_mk (defScope s_renamed) ["arcs", "names"] (by decide +kernel))) av_nil))))
theorem ok_renamed {P : Program} {w : World} {K : PySem.W.Frag} {mg : Str → Option Value} {base : Heap} {f : Addr} {fd : FuncData} (F : Fun K "renamed" "renamed" s_renamed f fd) (B : Bn mg) : FnOk P w K mg base CX0 1 f fd ["arcs", "names"] (spR K g_renamed) := by
  refine fn_ro (T := t_renamed) F sc_renamed rfl (by decide) (fun ds kk h => ?_) (b_renamed B) (fun ds kk h => ?_)
  · obtain ⟨ns, T, f, rfl, _⟩ := h
    rfl
  · obtain ⟨ns, T, f, rfl, hl, hT, k⟩ := h
    simp only [w_renamed, wRet, wCall, wCons, env0, List.map_cons, List.map_nil, List.length_cons, List.length_nil, Nat.zero_add, Nat.reduceAdd, List.cons_append, List.nil_append, wNil, r_comp, r_seq, r_var, look, oget_s, r_seqT]
    refine ⟨pure_ints, compI_map (renF f) (by rw [List.length_map]; exact big (by omega)) (fun d hd Q' hQ => ?_) ?_⟩
    · obtain ⟨n, hn, rfl⟩ := List.mem_map.mp hd
      simp only [wLift, wBin, blkE, List.map_cons, look, List.map_nil, r_var, oget_s, r_ixDi, hT n hn, D.pure, true_and]
      exact hQ
    · simp only [r_tupL]
      rw [List.map_map]
      exact ⟨pureL_map fun _ _ => rfl, k⟩
def g_named_anew : GA := fun ds k => ∃ (m e : Nat) (A : Nat → Int) (r : Int), ds = [webD m e A r] ∧ m ≤ 20 ∧ e ≤ 20 ∧ k (webD m e (M.anw A (4 * m + e)) r)
def crF (A : Nat → Int) : D → D
  | .tup ds => .tup (ds.map fun d => match d with | .int a => .int (A a.toNat) | d => d)
  | d => d
def nmF (f : Int → Int) : D → D
  | .tup ds => .tup (ds.map (renF f))
  | d => d
theorem web_cr {m e : Nat} {A : Nat → Int} {f : Int → Int} {r : Int} : D.tup [.tup (((List.range m).map fun k => D.tup ((List.range 4).map fun j => .int (A (4 * k + j)))).map (nmF f)), .tup (((List.range e).map fun j => A (4 * m + j)).map fun n => .int (f n)), .int r] = webD m e (fun i => f (A i)) r := by
  unfold webD
  rw [List.map_map, List.map_map]
  congr 3
abbrev s_named_anew : Stmt := top 4
theorem sc_named_anew : FnScope ["web", "names", "arc", "crossings"] ["web"] (defScope s_named_anew) := ⟨rfl, rfl, rfl, by decide +kernel, rfl, by decide +kernel, by decide +kernel⟩
def t_named_anew : Tg := ⟨fun i => i == 1 || i == 2 || i == 3, []⟩
def w_named_anew : WS := (wSeq (wSet 1 (wC (.dik [])))
  (wSeq (wFor (wKeys (wCall g_places (wCons (wVar 0) wNil))) (gN 2) (wSetIx 1 (wCall dLen (wCons (wVar 1) wNil)) (wVar 2)))
  (wSeq (wSet 3 (wCall dTuple (wCons (wComp (wSeqD (wBin dIx (wVar 0) (wC (.int 0)))) wAll (wCall g_renamed (wCons (wVar 0) (wCons (wVar 1) wNil))) [1]) wNil)))
  (wRet (wLift (wTup (wCons (wVar 3) (wCons (wCall g_renamed (wCons (wBin dIx (wVar 0) (wC (.int 1))) (wCons (wVar 1) wNil))) (wCons (wBin dIx (wVar 0) (wC (.int 2))) wNil)))))))))
theorem b_named_anew {P : Program} {w : World} {K : PySem.W.Frag} {mg : Str → Option Value} {base : Heap} {f : Addr} (B : Bn mg) (C_places : Cal P w K mg base "places" 1 ["web"] (spR K g_places)) (C_renamed : Cal P w K mg base "renamed" 1 ["arcs", "names"] (spR K g_renamed)) : ∀ (cdv : Value) (A : Around) (outer : List PySem.Env) (s : Shared) (H : Hp) (E : XK), Room 1 (A.deeper (envOfC "named_anew" (defScope s_named_anew) s.heap.objs.size f cdv)) → SVs (cxOf CX0 P w K mg base ["web", "names", "arc", "crossings"] "named_anew" (defScope s_named_anew) f cdv A outer s H E).nox t_named_anew (defBody s_named_anew) w_named_anew := fun cdv A outer s H E hr =>
    (svs_cons (sv_set (i := 1) ev_dnewK sc_named_anew.nd)
    (svs_cons (sv_for PassesOwn.never (iv_keys (ev_callC C_places (hr.mono (by decide)) (av_cons (ev_var 0) av_nil))) (gv_name (i := 2) sc_named_anew.nd) (svs_one (sv_setIx (i := 1) (hu_of hr) (ev_callB cd_len B.nb_len bt_len (av_cons (ev_var 1) av_nil)) (ev_var 2))))
    (svs_cons (sv_set (i := 3) (ev_callTy cd_tuple B.nb_tuple bt_tuple (av_cons (ev_compB (comp_ok [1] (iv_seq (ev_ix (xd_ix (hu_of hr)) (ev_var 0) ev_int)) (fun _ _ _ _ _ => cv_nil) (fun _ _ _ _ _ => (ev_callC C_renamed (hr.mono (by decide)) (av_cons (ev_var 0) (av_cons (ev_var 1) av_nil))))) (compB_mk (defScope s_named_anew) ["web", "names", "arc", "crossings"] (by decide +kernel))) av_nil)) sc_named_anew.nd)
    (svs_one (sv_ret (ev_lift (ev_tup (av_cons (ev_var 3) (av_cons (ev_callC C_renamed (hr.mono (by decide)) (av_cons (ev_ix (xd_ix (hu_of hr)) (ev_var 0) ev_int) (av_cons (ev_var 1) av_nil))) (av_cons (ev_ix (xd_ix (hu_of hr)) (ev_var 0) ev_int) av_nil))))))))))
theorem ok_named_anew {P : Program} {w : World} {K : PySem.W.Frag} {mg : Str → Option Value} {base : Heap} {f : Addr} {fd : FuncData} (F : Fun K "named_anew" "named_anew" s_named_anew f fd) (B : Bn mg) (C1 : Cal P w K mg base "places" 1 ["web"] (spR K g_places)) (C2 : Cal P w K mg base "renamed" 1 ["arcs", "names"] (spR K g_renamed)) : FnOk P w K mg base CX0 2 f fd ["web"] (spR K g_named_anew) := by
  refine fn_ro (T := t_named_anew) F sc_named_anew rfl (by decide) (fun ds kk h => ?_) (b_named_anew B C1 C2) (fun ds kk h => ?_)
  · obtain ⟨m, e, A, r, rfl, _⟩ := h
    rfl
  · obtain ⟨m, e, A, r, rfl, hm, he, k⟩ := h
    simp only [w_named_anew, wSeq, wSet, wC, env0, List.map_cons, List.map_nil, List.length_cons, List.length_nil, Nat.zero_add, Nat.reduceAdd, List.replicate, List.cons_append, List.nil_append, List.set_cons_succ, List.set_cons_zero, r_for, r2_keys, wCall, wCons, wNil, r_var, look, oget_s]
    refine ⟨m, e, A, r, rfl, by omega, by omega, ?_⟩
    simp only [r2_keysD, keys_enc]
    refine ⟨pure_ints, fun t ρ => t ≤ (M.keys A (4 * m + e)).length ∧ ∃ o : Option D, ρ = [some (webD m e A r), some (.dik (num 0 ((M.keys A (4 * m + e)).take t))), o, none], ⟨Nat.zero_le _, none, rfl⟩, ?_, ?_⟩
    · rintro t d ρ hd ⟨ht, o, rfl⟩
      rw [List.getElem?_map] at hd
      cases hq : (M.keys A (4 * m + e))[t]? with
      | none => rw [show (M.plc A (4 * m + e)).map (·.1) = M.keys A (4 * m + e) from rfl, hq] at hd; cases hd
      | some a =>
        rw [show (M.plc A (4 * m + e)).map (·.1) = M.keys A (4 * m + e) from rfl, hq] at hd
        cases hd
        have hlt := (List.getElem?_eq_some_iff.mp hq).1
        have hk := M.keys_len A (4 * m + e)
        have hno : a ∉ (M.keys A (4 * m + e)).take t := fun hm' => by
          obtain ⟨i, hi, e1⟩ := List.mem_take_iff_getElem.mp hm'
          have e2 := (List.getElem?_eq_some_iff.mp hq).2
          have := (List.getElem_inj (M.keys_nd A (4 * m + e))).mp (e1.trans e2.symm)
          omega
        simp only [gN, wSetIx, wCall, wCons, List.set_cons_succ, List.set_cons_zero, wNil, r_var, look, Option.isSome_some, oget_s, r_setDi, true_and, r_lenD, D.pure]
        refine ⟨by rw [num_len, List.length_take]; exact big (by omega), by omega, some (.int a), ?_⟩
        rw [num_put hno, List.take_add_one, hq]
        rfl
    · rintro ρ ⟨ht, o, rfl⟩
      rw [show ((M.plc A (4 * m + e)).map (·.1)).map D.int = (M.keys A (4 * m + e)).map D.int from rfl, List.length_map, List.take_length]
      have hval : ∀ i, i < 4 * m + e → valD (num 0 (M.keys A (4 * m + e))) (.inl (A i)) = some (.int (M.anw A (4 * m + e) i)) := fun i hi => by
        rw [num_val (M.keys_mem hi)]; simp [M.anw]
      simp only [wSeq, wSet, wCall, wCons, webD, wNil, wRet, wLift, wTup, wBin, wC, List.length_cons, List.length_nil, Nat.zero_add, Nat.reduceAdd, D.pure, pureL, Bool.and_true, r_var, r_comp, r_seq, look, oget_s, r_ixT, atI_0, List.getElem?_cons_zero, r_seqT]
      refine ⟨pureL_map fun _ _ => by simp only [D.pure]; exact pureL_map fun _ _ => rfl, compI_map (nmF fun a => ((M.ix a (M.keys A (4 * m + e)) : Nat) : Int)) (by simp; exact big (by omega)) (fun d hd Q' hQ => ?_) ?_⟩
      · obtain ⟨kk, hk, rfl⟩ := List.mem_map.mp hd
        have hk := List.mem_range.mp hk
        simp only [wCall, wCons, blkE, List.map_cons, look, List.map_nil, wNil, r_var, oget_s]
        refine ⟨(List.range 4).map fun j => A (4 * kk + j), num 0 (M.keys A (4 * m + e)), fun a => ((M.ix a (M.keys A (4 * m + e)) : Nat) : Int), by simp, by simp, fun n hn => ?_, ?_⟩
        · obtain ⟨j, hj, rfl⟩ := List.mem_map.mp hn
          have hj := List.mem_range.mp hj
          exact hval _ (by omega)
        · have e1 : D.tup (((List.range 4).map fun j => A (4 * kk + j)).map fun n => .int ((M.ix n (M.keys A (4 * m + e)) : Nat) : Int)) = nmF (fun a => ((M.ix a (M.keys A (4 * m + e)) : Nat) : Int)) (D.tup ((List.range 4).map fun j => .int (A (4 * kk + j)))) := by
            simp [nmF, renF, Function.comp]
          rw [e1]
          exact hQ
      · simp only [List.set_cons_succ, List.set_cons_zero, look, oget_s, r_ixT, atI_2, List.getElem?_cons_succ, List.getElem?_cons_zero, D.pure, Bool.and_true, atI_1, r_tupL]
        refine ⟨pureL_map fun d hd => ?_, ?_⟩
        · obtain ⟨kk, hk, rfl⟩ := List.mem_map.mp hd
          simp only [nmF, D.pure, List.map_map]
          exact pureL_map fun _ _ => rfl
        · refine ⟨(List.range e).map fun j => A (4 * m + j), num 0 (M.keys A (4 * m + e)), fun a => ((M.ix a (M.keys A (4 * m + e)) : Nat) : Int), by simp, by simp; omega, fun n hn => ?_, by decide, ?_⟩
          · obtain ⟨j, hj, rfl⟩ := List.mem_map.mp hn
            have hj := List.mem_range.mp hj
            exact hval _ (by omega)
          · rw [web_cr]
            refine ⟨?_, k⟩
            rw [Bool.and_eq_true]
            refine ⟨pureL_map fun d hd => ?_, by simp only [D.pure]; exact pureL_map fun _ _ => rfl⟩
            obtain ⟨kk, hk, rfl⟩ := List.mem_map.mp hd
            simp only [nmF, D.pure, List.map_map]
            exact pureL_map fun _ _ => rfl
end K57
set_option Elab.async false
set_option linter.all false
set_option maxRecDepth 100000
set_option maxHeartbeats 4000000
namespace K57
open PySem PySem.Spec L2 PV
open PyProof.Rows (envOfC)
def calF (a b : Int) (n : Int) : Int := if n = a then b else n
def dF (f : Int → Int) : D → D
  | .int n => .int (f n)
  | d => d
def g_called : GA := fun ds k => ∃ (ns : List Int) (a b : Int), ds = [.tup (ns.map .int), .int a, .int b] ∧ ns.length ≤ 100 ∧ k (.tup (ns.map fun n => .int (calF a b n)))
abbrev s_called : Stmt := top 7
theorem sc_called : FnScope ["arcs", "gone", "kept"] ["arcs", "gone", "kept"] (defScope s_called) := ⟨rfl, rfl, rfl, by decide +kernel, rfl, by decide +kernel, by decide +kernel⟩
def t_called : Tg := ⟨fun i => false, []⟩
def w_called : WS := (wRet (wCall dTuple (wCons (wComp (wSeqD (wVar 0)) wAll (wLift (wIfE (wBl (wBin dEq (wVar 0) (wVar 1))) (wVar 2) (wVar 0))) [1, 2]) wNil)))
theorem b_called {P : Program} {w : World} {K : PySem.W.Frag} {mg : Str → Option Value} {base : Heap} {f : Addr} (B : Bn mg) : ∀ (cdv : Value) (A : Around) (outer : List PySem.Env) (s : Shared) (H : Hp) (E : XK), Room 0 (A.deeper (envOfC "called" (defScope s_called) s.heap.objs.size f cdv)) → SVs (cxOf CX0 P w K mg base ["arcs", "gone", "kept"] "called" (defScope s_called) f cdv A outer s H E).nox t_called (defBody s_called) w_called := fun cdv A outer s H E hr =>
    (svs_one (sv_ret (ev_callTy cd_tuple B.nb_tuple bt_tuple (av_cons (ev_compB (comp_ok [1, 2] (iv_seq (ev_var 0)) (fun _ _ _ _ _ => cv_nil) (fun _ _ _ _ _ => (ev_lift (ev_if (tv_cmp (od_eq hr.units) (ev_var 0) (ev_var 1)) (ev_var 2) (ev_var 0))))) (compB_mk (defScope s_called) ["arcs", "gone", "kept"] (by decide +kernel))) av_nil))))
theorem ok_called {P : Program} {w : World} {K : PySem.W.Frag} {mg : Str → Option Value} {base : Heap} {f : Addr} {fd : FuncData} (F : Fun K "called" "called" s_called f fd) (B : Bn mg) : FnOk P w K mg base CX0 1 f fd ["arcs", "gone", "kept"] (spR K g_called) := by
  refine fn_ro (T := t_called) F sc_called rfl (by decide) (fun ds kk h => ?_) (b_called B) (fun ds kk h => ?_)
  · obtain ⟨ns, a, b, rfl, _⟩ := h
    rfl
  · obtain ⟨ns, a, b, rfl, hl, k⟩ := h
    simp only [w_called, wRet, wCall, wCons, env0, List.map_cons, List.map_nil, List.length_cons, List.length_nil, Nat.zero_add, Nat.reduceAdd, List.cons_append, List.nil_append, wNil, r_comp, r_seq, r_var, look, oget_s, r_seqT, pure_ints, true_and]
    refine compI_map (dF (calF a b)) (by rw [List.length_map]; exact big (by omega)) (fun d hd Q' hQ => ?_) ?_
    · obtain ⟨n, hn, rfl⟩ := List.mem_map.mp hd
      simp only [wLift, wIfE, blkE, List.map_cons, look, List.map_nil, r_var, r_bl, wBin, oget_s, D.pure, true_and, r_eqI, r_blOf]
      have hQ : Q' (.int (if n = a then b else n)) (blkE (some (D.tup (List.map D.int ns)) :: some (D.int a) :: some (D.int b) :: List.replicate (3 - 3) none) (D.int n) [1, 2]) := hQ
      split
      · rename_i h
        rw [if_pos (of_decide_eq_true h)] at hQ
        exact hQ
      · rename_i h
        rw [if_neg (fun z => h (decide_eq_true z))] at hQ
        exact hQ
    · simp only [r_tupL]
      rw [List.map_map]
      exact ⟨pureL_map fun _ _ => rfl, k⟩
def aft (e p : Nat) : Nat := (p + 1) % e
def shA (m e p : Nat) (A : Nat → Int) (i : Nat) : Int := M.cal A (4 * m + p) (4 * m + aft e p) (M.old m e p (aft e p) i)
def shR (m e p : Nat) (A : Nat → Int) (r : Int) : Int := if A (4 * m + p) = A (4 * m + aft e p) then r + 1 else r
theorem aft_lt {e p : Nat} (h : 0 < e) : aft e p < e := Nat.mod_lt _ h
theorem aft_ne {e p : Nat} (h : 2 ≤ e) (hp : p < e) : p ≠ aft e p := by
  unfold aft
  by_cases hq : p + 1 = e
  · rw [hq, Nat.mod_self]; omega
  · rw [Nat.mod_eq_of_lt (by omega)]; omega
theorem list_range {f : Nat → D} {l : List Nat} : l.map f = (List.range l.length).map fun j => f (l.getD j 0) := by
  apply List.ext_getElem
  · simp
  · intro i h1 h2
    simp only [List.getElem_map, List.getElem_range]
    rw [List.getD_eq_getElem?_getD, List.getElem?_eq_getElem (by simpa using h1)]
    rfl
def g_shut_as_named : GA := fun ds k => ∃ (m e : Nat) (A : Nat → Int) (r : Int) (p : Nat), ds = [webD m e A r, .int p] ∧ p < e ∧ 2 ≤ e ∧ m ≤ 50 ∧ e ≤ 50 ∧ k (webD m (M.rest e p (aft e p)).length (shA m e p A) (shR m e p A r))
theorem in_two {j p q : Int} : inD (.int j) [.int p, .int q] = some (decide (j = p) || decide (j = q)) := by
  simp only [inD, Option.map_some, Bool.or_false]
  have h : ∀ a b : Int, (a == b) = decide (b = a) := fun a b => by
    by_cases h : b = a
    · rw [decide_eq_true h, h]; exact beq_self_eq_true a
    · rw [decide_eq_false h]; exact beq_eq_false_iff_ne.mpr fun z => h z.symm
  rw [h, h]
theorem web_shut {m e p : Nat} {A : Nat → Int} {r : Int} (hne : A (4 * m + p) ≠ A (4 * m + aft e p)) : D.tup [.tup ((List.range m).map fun k => .tup ((List.range 4).map fun j => .int (calF (A (4 * m + p)) (A (4 * m + aft e p)) (A (4 * k + j))))),
    .tup ((M.rest e p (aft e p)).map fun j => .int (calF (A (4 * m + p)) (A (4 * m + aft e p)) (A (4 * m + j)))), .int r] = webD m (M.rest e p (aft e p)).length (shA m e p A) (shR m e p A r) := by
  unfold webD shR
  rw [if_neg hne, list_range (l := M.rest e p (aft e p))]
  have e1 : (List.range m).map (fun k => D.tup ((List.range 4).map fun j => .int (calF (A (4 * m + p)) (A (4 * m + aft e p)) (A (4 * k + j))))) = (List.range m).map fun k => D.tup ((List.range 4).map fun j => .int (shA m e p A (4 * k + j))) := by
    refine List.map_congr_left fun k hk => ?_
    congr 1
    refine List.map_congr_left fun j hj => ?_
    have hk := List.mem_range.mp hk
    have hj := List.mem_range.mp hj
    unfold shA
    rw [M.old_in (by omega)]
    rfl
  have e2 : (List.range (M.rest e p (aft e p)).length).map (fun j => D.int (calF (A (4 * m + p)) (A (4 * m + aft e p)) (A (4 * m + (M.rest e p (aft e p)).getD j 0)))) = (List.range (M.rest e p (aft e p)).length).map fun j => D.int (shA m e p A (4 * m + j)) := by
    refine List.map_congr_left fun j hj => ?_
    unfold shA
    rw [M.old_out]
    rfl
  rw [e1, e2]
theorem web_same {m e p : Nat} {A : Nat → Int} {r : Int} (he : A (4 * m + p) = A (4 * m + aft e p)) : D.tup [.tup ((List.range m).map fun k => .tup ((List.range 4).map fun j => .int (A (4 * k + j)))),
    .tup ((M.rest e p (aft e p)).map fun j => .int (A (4 * m + j))), .int (r + 1)] = webD m (M.rest e p (aft e p)).length (shA m e p A) (shR m e p A r) := by
  have hc : ∀ x, M.cal A (4 * m + p) (4 * m + aft e p) x = A x := fun x => by
    unfold M.cal
    split
    · rename_i h; rw [h, ← he]
    · rfl
  unfold webD shR
  rw [if_pos he, list_range (l := M.rest e p (aft e p))]
  have e1 : (List.range m).map (fun k => D.tup ((List.range 4).map fun j => .int (A (4 * k + j)))) = (List.range m).map fun k => D.tup ((List.range 4).map fun j => .int (shA m e p A (4 * k + j))) := by
    refine List.map_congr_left fun k hk => ?_
    congr 1
    refine List.map_congr_left fun j hj => ?_
    have hk := List.mem_range.mp hk
    have hj := List.mem_range.mp hj
    unfold shA
    rw [M.old_in (by omega), hc]
  have e2 : (List.range (M.rest e p (aft e p)).length).map (fun j => D.int (A (4 * m + (M.rest e p (aft e p)).getD j 0))) = (List.range (M.rest e p (aft e p)).length).map fun j => D.int (shA m e p A (4 * m + j)) := by
    refine List.map_congr_left fun j hj => ?_
    unfold shA
    rw [M.old_out, hc]
  rw [e1, e2]
abbrev s_shut_as_named : Stmt := top 8
theorem sc_shut_as_named : FnScope ["web", "place", "after", "gone", "kept", "ends", "crossings"] ["web", "place"] (defScope s_shut_as_named) := ⟨rfl, rfl, rfl, by decide +kernel, rfl, by decide +kernel, by decide +kernel⟩
def t_shut_as_named : Tg := ⟨fun i => i == 2 || i == 3 || i == 4 || i == 5 || i == 6, []⟩
def w_shut_as_named : WS := (wSeq (wSet 2 (wBin dMod (wBin dAddT (wVar 1) (wC (.int 1))) (wCall dLen (wCons (wBin dIx (wVar 0) (wC (.int 1))) wNil))))
  (wSeq (wSet 3 (wLift (wBin dIx (wBin dIx (wVar 0) (wC (.int 1))) (wVar 1))))
  (wSeq (wSet 4 (wLift (wBin dIx (wBin dIx (wVar 0) (wC (.int 1))) (wVar 2))))
  (wSeq (wSet 5 (wCall dTuple (wCons (wComp2 (wEnum (wCons (wBin dIx (wVar 0) (wC (.int 1))) wNil)) (wBl (wBin (dIn true) (wVar 0) (wTup (wCons (wVar 3) (wCons (wVar 2) wNil))))) (wLift (wVar 1)) [2, 1]) wNil)))
  (wSeq (wIf (wBl (wBin dEq (wVar 3) (wVar 4))) (wRet (wLift (wTup (wCons (wBin dIx (wVar 0) (wC (.int 0))) (wCons (wVar 5) (wCons (wBin dAddT (wBin dIx (wVar 0) (wC (.int 2))) (wC (.int 1))) wNil)))))) wNext)
  (wSeq (wSet 6 (wCall dTuple (wCons (wComp (wSeqD (wBin dIx (wVar 0) (wC (.int 0)))) wAll (wCall g_called (wCons (wVar 0) (wCons (wVar 1) (wCons (wVar 2) wNil)))) [3, 4]) wNil)))
  (wRet (wLift (wTup (wCons (wVar 6) (wCons (wCall g_called (wCons (wVar 5) (wCons (wVar 3) (wCons (wVar 4) wNil)))) (wCons (wBin dIx (wVar 0) (wC (.int 2))) wNil))))))))))))
theorem b_shut_as_named {P : Program} {w : World} {K : PySem.W.Frag} {mg : Str → Option Value} {base : Heap} {f : Addr} (B : Bn mg) (C_called : Cal P w K mg base "called" 1 ["arcs", "gone", "kept"] (spR K g_called)) : ∀ (cdv : Value) (A : Around) (outer : List PySem.Env) (s : Shared) (H : Hp) (E : XK), Room 1 (A.deeper (envOfC "shut_as_named" (defScope s_shut_as_named) s.heap.objs.size f cdv)) → SVs (cxOf CX0 P w K mg base ["web", "place", "after", "gone", "kept", "ends", "crossings"] "shut_as_named" (defScope s_shut_as_named) f cdv A outer s H E).nox t_shut_as_named (defBody s_shut_as_named) w_shut_as_named := fun cdv A outer s H E hr =>
    (svs_cons (sv_set (i := 2) (ev_op od_mod (ev_op od_addT (ev_var 1) ev_int) (ev_callB cd_len B.nb_len bt_len (av_cons (ev_ix (xd_ix (hu_of hr)) (ev_var 0) ev_int) av_nil))) sc_shut_as_named.nd)
    (svs_cons (sv_set (i := 3) (ev_lift (ev_ix (xd_ix (hu_of hr)) (ev_ix (xd_ix (hu_of hr)) (ev_var 0) ev_int) (ev_var 1))) sc_shut_as_named.nd)
    (svs_cons (sv_set (i := 4) (ev_lift (ev_ix (xd_ix (hu_of hr)) (ev_ix (xd_ix (hu_of hr)) (ev_var 0) ev_int) (ev_var 2))) sc_shut_as_named.nd)
    (svs_cons (sv_set (i := 5) (ev_callTy cd_tuple B.nb_tuple bt_tuple (av_cons (ev_comp2 (comp_ok2 [2, 1] (iv_enum B.nb_enumerate (av_cons (ev_ix (xd_ix (hu_of hr)) (ev_var 0) ev_int) av_nil)) (fun _ _ _ _ _ => cv_one (tv_cmp (od_nin (hu_of hr)) (ev_var 0) (ev_tup (av_cons (ev_var 3) (av_cons (ev_var 2) av_nil))))) (fun _ _ _ _ _ => (ev_lift (ev_var 1)))) (compB2_mk (defScope s_shut_as_named) ["web", "place", "after", "gone", "kept", "ends", "crossings"] (by decide +kernel))) av_nil)) sc_shut_as_named.nd)
    (svs_cons (sv_if (tv_cmp (od_eq hr.units) (ev_var 3) (ev_var 4)) (svs_one (sv_ret (ev_lift (ev_tup (av_cons (ev_ix (xd_ix (hu_of hr)) (ev_var 0) ev_int) (av_cons (ev_var 5) (av_cons (ev_op od_addT (ev_ix (xd_ix (hu_of hr)) (ev_var 0) ev_int) ev_int) av_nil))))))) svs_nil)
    (svs_cons (sv_set (i := 6) (ev_callTy cd_tuple B.nb_tuple bt_tuple (av_cons (ev_compB (comp_ok [3, 4] (iv_seq (ev_ix (xd_ix (hu_of hr)) (ev_var 0) ev_int)) (fun _ _ _ _ _ => cv_nil) (fun _ _ _ _ _ => (ev_callC C_called (hr.mono (by decide)) (av_cons (ev_var 0) (av_cons (ev_var 1) (av_cons (ev_var 2) av_nil)))))) (compB_mk (defScope s_shut_as_named) ["web", "place", "after", "gone", "kept", "ends", "crossings"] (by decide +kernel))) av_nil)) sc_shut_as_named.nd)
    (svs_one (sv_ret (ev_lift (ev_tup (av_cons (ev_var 6) (av_cons (ev_callC C_called (hr.mono (by decide)) (av_cons (ev_var 5) (av_cons (ev_var 3) (av_cons (ev_var 4) av_nil)))) (av_cons (ev_ix (xd_ix (hu_of hr)) (ev_var 0) ev_int) av_nil)))))))))))))
theorem ok_shut_as_named {P : Program} {w : World} {K : PySem.W.Frag} {mg : Str → Option Value} {base : Heap} {f : Addr} {fd : FuncData} (F : Fun K "shut_as_named" "shut_as_named" s_shut_as_named f fd) (B : Bn mg) (C1 : Cal P w K mg base "called" 1 ["arcs", "gone", "kept"] (spR K g_called)) : FnOk P w K mg base CX0 2 f fd ["web", "place"] (spR K g_shut_as_named) := by
  refine fn_ro (T := t_shut_as_named) F sc_shut_as_named rfl (by decide) (fun ds kk h => ?_) (b_shut_as_named B C1) (fun ds kk h => ?_)
  · obtain ⟨m, e, A, r, p, rfl, _⟩ := h
    rfl
  · obtain ⟨m, e, A, r, p, rfl, hp, he, hm, he2, k⟩ := h
    have hq := aft_lt (p := p) (show 0 < e by omega)
    have hpe : ((p : Int) + 1) % (e : Int) = ((aft e p : Nat) : Int) := by unfold aft; rw [Int.natCast_emod]; rfl
    have he0 : (0 : Int) < (e : Int) := by omega
    have hpe2 : pureL ((List.range e).map fun j => D.int (A (4 * m + j))) = true := pureL_map fun _ _ => rfl
    simp only [w_shut_as_named, wSeq, wSet, wBin, env0, webD, List.map_cons, List.map_nil, List.length_cons, List.length_nil, Nat.zero_add, Nat.reduceAdd, List.replicate, List.cons_append, List.nil_append, wC, wCall, wCons, wNil, wLift, wComp2, wIf, wRet, wTup, sz3, D.pure, pureL, Bool.and_true, true_and, r_var, wNext, r_comp, r_seq, r_bl, r_enum, look, List.set_cons_succ, List.set_cons_zero, oget_s, r_ixT, atI_1, List.getElem?_cons_succ, List.getElem?_cons_zero, r_enumT, atI_ofNat, List.getElem?_map, List.getElem?_range hp, Option.map_some, r_lenT, List.length_map, List.length_range, r2_add, he0, r_modP, hpe, List.getElem?_range hq]
    refine ⟨hpe2, fun i ys => i ≤ e ∧ ys = ((List.range i).filter fun j => decide (j ≠ p ∧ j ≠ aft e p)).map (fun j => D.int (A (4 * m + j))), ⟨Nat.zero_le _, rfl⟩, ?_, ?_⟩
    · rintro i d ys hd ⟨_, rfl⟩
      rw [enumD_get] at hd
      have hi : i < e := by
        cases q : ((List.range e).map fun j => D.int (A (4 * m + j)))[i]? with
        | none => rw [q] at hd; cases hd
        | some z => simpa using (List.getElem?_eq_some_iff.mp q).1
      rw [List.getElem?_map, List.getElem?_range hi] at hd
      have hd := (Option.some.inj hd).symm
      subst hd
      have hlen : ((List.range i).filter fun j => decide (j ≠ p ∧ j ≠ aft e p)).length ≤ i := by
        refine Nat.le_trans (List.length_filter_le _ _) ?_
        rw [List.length_range]; exact Nat.le_refl _
      refine ⟨by rw [List.length_map]; exact big (by omega), ?_⟩
      simp only [Nat.zero_add, blkE2, List.map_cons, look, List.map_nil, wLift, r_var, oget_s, r_bl, wBin, wTup, wCons, wNil, List.length_cons, List.length_nil, Nat.reduceAdd, sz2, true_and, r4_two, D.pure, r8_inT, in_two, r_blOf]
      rw [List.range_succ, List.filter_append, List.map_append]
      have c1 : ((i : Int) = (p : Int)) = (i = p) := propext ⟨fun h => by omega, fun h => by omega⟩
      have c2 : ((i : Int) = ((aft e p : Nat) : Int)) = (i = aft e p) := propext ⟨fun h => by omega, fun h => by omega⟩
      simp only [c1, c2]
      by_cases h : i ≠ p ∧ i ≠ aft e p
      · simp only [h.1, decide_false, h.2, Bool.or_self, Bool.xor_false, reduceIte]
        refine ⟨by omega, ?_⟩
        simp [h.1, h.2]
      · have hx : (decide (i = p) || decide (i = aft e p)) = true := by
          by_cases h1 : i = p
          · simp [h1]
          · have h2 : i = aft e p := Classical.byContradiction fun z => h ⟨h1, z⟩
            simp [h2]
        simp only [hx, Bool.xor_true, Bool.not_true, Bool.false_eq_true, reduceIte]
        refine ⟨by omega, ?_⟩
        rw [List.filter_cons_of_neg (by simpa using h)]
        simp
    · rintro ys ⟨_, rfl⟩
      have hlen : (enumD 0 ((List.range e).map fun j => D.int (A (4 * m + j)))).length = e := by rw [enumD_length]; simp
      rw [hlen]
      have hrl := M.rest_len hp hq (aft_ne he hp)
      have er : ((List.range e).filter fun j => decide (j ≠ p ∧ j ≠ aft e p)) = M.rest e p (aft e p) := rfl
      rw [er]
      have pr : pureL ((M.rest e p (aft e p)).map fun j => D.int (A (4 * m + j))) = true := pureL_map fun _ _ => rfl
      have pc : pureL ((List.range m).map fun k => D.tup ((List.range 4).map fun j => .int (A (4 * k + j)))) = true := pureL_map fun _ _ => by simp only [D.pure]; exact pureL_map fun _ _ => rfl
      simp only [List.set_cons_succ, List.set_cons_zero, look, oget_s, r_ixT, atI_2, List.getElem?_cons_succ, List.getElem?_cons_zero, r2_add, D.pure, Bool.and_true, atI_0, pc, Bool.true_and, r_seqT, true_and, r_eqI, r_blOf, r_tupL, pr]
      refine ⟨by rw [List.length_map]; exact Nat.le_of_lt (big (by omega)), ?_⟩
      split
      · rename_i h
        rw [web_same (of_decide_eq_true h)]
        exact k
      · rename_i h
        have h : A (4 * m + p) ≠ A (4 * m + aft e p) := fun z => h (decide_eq_true z)
        refine compI_map (nmF (calF (A (4 * m + p)) (A (4 * m + aft e p)))) (by rw [List.length_map, List.length_range]; exact big (by omega)) (fun d hd Q' hQ => ?_) ?_
        · obtain ⟨kk, hk, rfl⟩ := List.mem_map.mp hd
          simp only [wCall, wCons, blkE, List.map_cons, look, List.map_nil, wNil, r_var, oget_s]
          refine ⟨(List.range 4).map fun j => A (4 * kk + j), _, _, by rw [List.map_map]; rfl, by simp, ?_⟩
          rw [List.map_map]
          exact hQ
        · have e1 : ((List.range m).map fun k => D.tup ((List.range 4).map fun j => .int (A (4 * k + j)))).map (nmF (calF (A (4 * m + p)) (A (4 * m + aft e p)))) = (List.range m).map fun k => D.tup ((List.range 4).map fun j => .int (calF (A (4 * m + p)) (A (4 * m + aft e p)) (A (4 * k + j)))) := by
            rw [List.map_map]; rfl
          rw [e1]
          have pc2 : pureL ((List.range m).map fun k => D.tup ((List.range 4).map fun j => .int (calF (A (4 * m + p)) (A (4 * m + aft e p)) (A (4 * k + j))))) = true := pureL_map fun _ _ => by simp only [D.pure]; exact pureL_map fun _ _ => rfl
          have pr2 : pureL ((M.rest e p (aft e p)).map fun j => D.int (calF (A (4 * m + p)) (A (4 * m + aft e p)) (A (4 * m + j)))) = true := pureL_map fun _ _ => rfl
          simp only [List.set_cons_succ, List.set_cons_zero, look, oget_s, r_ixT, atI_2, List.getElem?_cons_succ, List.getElem?_cons_zero, D.pure, Bool.and_true, r_tupL, pc2, Bool.true_and, true_and]
          refine ⟨(M.rest e p (aft e p)).map fun j => A (4 * m + j), _, _, by rw [List.map_map]; rfl, by rw [List.length_map]; omega, ?_⟩
          rw [List.map_map]
          have e2 : (M.rest e p (aft e p)).map ((fun n => D.int (calF (A (4 * m + p)) (A (4 * m + aft e p)) n)) ∘ fun j => A (4 * m + j)) = (M.rest e p (aft e p)).map fun j => D.int (calF (A (4 * m + p)) (A (4 * m + aft e p)) (A (4 * m + j))) := rfl
          rw [e2]
          simp only [D.pure, pr2, web_shut h, true_and]
          exact k
end K57
set_option Elab.async false
set_option linter.all false
set_option maxRecDepth 100000
set_option maxHeartbeats 4000000
namespace K57
open PySem PySem.Spec L2 PV
open PyProof.Rows (envOfC)
theorem range_addD {f : Nat → D} {a b : Nat} : (List.range (a + b)).map f = (List.range a).map f ++ (List.range b).map fun j => f (a + j) := by
  rw [List.range_add, List.map_append, List.map_map]; rfl
section
variable (m1 e1 m2 : Nat)
def sid (i : Nat) : Bool := decide (i < 4 * m1 ∨ (4 * (m1 + m2) ≤ i ∧ i < 4 * (m1 + m2) + e1))
def loc (i : Nat) : Nat := if i < 4 * m1 then i else if i < 4 * (m1 + m2) then i - 4 * m1 else if i < 4 * (m1 + m2) + e1 then i - 4 * m2 else i - 4 * m1 - e1
def emb (b : Bool) (x : Nat) : Nat := if b = true then (if x < 4 * m1 then x else x + 4 * m2) else (if x < 4 * m2 then x + 4 * m1 else x + 4 * m1 + e1)
def bth (A1 A2 : Nat → Int) (i : Nat) : Int := if sid m1 e1 m2 i = true then A1 (loc m1 e1 m2 i) else A2 (loc m1 e1 m2 i)
def bG (g1 g2 : Nat → Nat) (i : Nat) : Nat := emb m1 e1 m2 (sid m1 e1 m2 i) (if sid m1 e1 m2 i = true then g1 (loc m1 e1 m2 i) else g2 (loc m1 e1 m2 i))
theorem four (i : Nat) : (i < 4 * m1 ∧ sid m1 e1 m2 i = true ∧ loc m1 e1 m2 i = i) ∨ (4 * m1 ≤ i ∧ i < 4 * (m1 + m2) ∧ sid m1 e1 m2 i = false ∧ loc m1 e1 m2 i = i - 4 * m1) ∨
    (4 * (m1 + m2) ≤ i ∧ i < 4 * (m1 + m2) + e1 ∧ sid m1 e1 m2 i = true ∧ loc m1 e1 m2 i = i - 4 * m2) ∨ (4 * (m1 + m2) + e1 ≤ i ∧ sid m1 e1 m2 i = false ∧ loc m1 e1 m2 i = i - 4 * m1 - e1) := by
  unfold sid loc
  by_cases h1 : i < 4 * m1
  · exact .inl ⟨h1, decide_eq_true (.inl h1), if_pos h1⟩
  · by_cases h2 : i < 4 * (m1 + m2)
    · exact .inr (.inl ⟨by omega, h2, decide_eq_false (by omega), by rw [if_neg h1, if_pos h2]⟩)
    · by_cases h3 : i < 4 * (m1 + m2) + e1
      · exact .inr (.inr (.inl ⟨by omega, h3, decide_eq_true (.inr ⟨by omega, h3⟩), by rw [if_neg h1, if_neg h2, if_pos h3]⟩))
      · exact .inr (.inr (.inr ⟨by omega, decide_eq_false (by omega), by rw [if_neg h1, if_neg h2, if_neg h3]⟩))
theorem emb_t (x : Nat) : (x < 4 * m1 ∧ emb m1 e1 m2 true x = x) ∨ (4 * m1 ≤ x ∧ emb m1 e1 m2 true x = x + 4 * m2) := by
  unfold emb
  rw [if_pos rfl]
  by_cases h : x < 4 * m1
  · exact .inl ⟨h, if_pos h⟩
  · exact .inr ⟨by omega, if_neg h⟩
theorem emb_f (x : Nat) : (x < 4 * m2 ∧ emb m1 e1 m2 false x = x + 4 * m1) ∨ (4 * m2 ≤ x ∧ emb m1 e1 m2 false x = x + 4 * m1 + e1) := by
  unfold emb
  rw [if_neg (by decide)]
  by_cases h : x < 4 * m2
  · exact .inl ⟨h, if_pos h⟩
  · exact .inr ⟨by omega, if_neg h⟩
end
section
variable {m1 e1 m2 e2 : Nat}
theorem emb_loc (i : Nat) : emb m1 e1 m2 (sid m1 e1 m2 i) (loc m1 e1 m2 i) = i := by
  rcases four m1 e1 m2 i with ⟨h, a, b⟩ | ⟨h, h', a, b⟩ | ⟨h, h', a, b⟩ | ⟨h, a, b⟩
  · rw [a, b]; rcases emb_t m1 e1 m2 i with z | z <;> omega
  · rw [a, b]; rcases emb_f m1 e1 m2 (i - 4 * m1) with z | z <;> omega
  · rw [a, b]; rcases emb_t m1 e1 m2 (i - 4 * m2) with z | z <;> omega
  · rw [a, b]; rcases emb_f m1 e1 m2 (i - 4 * m1 - e1) with z | z <;> omega
theorem loc1 {i : Nat} (hi : i < 4 * (m1 + m2) + (e1 + e2)) (h : sid m1 e1 m2 i = true) : loc m1 e1 m2 i < 4 * m1 + e1 := by
  rcases four m1 e1 m2 i with ⟨h1, a, b⟩ | ⟨h1, h', a, b⟩ | ⟨h1, h', a, b⟩ | ⟨h1, a, b⟩
  · omega
  · rw [h] at a; cases a
  · omega
  · rw [h] at a; cases a
theorem loc2 {i : Nat} (hi : i < 4 * (m1 + m2) + (e1 + e2)) (h : sid m1 e1 m2 i = false) : loc m1 e1 m2 i < 4 * m2 + e2 := by
  rcases four m1 e1 m2 i with ⟨h1, a, b⟩ | ⟨h1, h', a, b⟩ | ⟨h1, h', a, b⟩ | ⟨h1, a, b⟩
  · rw [h] at a; cases a
  · omega
  · rw [h] at a; cases a
  · omega
theorem emb1 {x : Nat} (hx : x < 4 * m1 + e1) : emb m1 e1 m2 true x < 4 * (m1 + m2) + (e1 + e2) ∧ sid m1 e1 m2 (emb m1 e1 m2 true x) = true ∧ loc m1 e1 m2 (emb m1 e1 m2 true x) = x := by
  rcases emb_t m1 e1 m2 x with ⟨z, e⟩ | ⟨z, e⟩ <;> rw [e]
  · rcases four m1 e1 m2 x with ⟨h1, a, b⟩ | ⟨h1, h', a, b⟩ | ⟨h1, h', a, b⟩ | ⟨h1, a, b⟩ <;> first | exact ⟨by omega, a, b⟩ | omega
  · rcases four m1 e1 m2 (x + 4 * m2) with ⟨h1, a, b⟩ | ⟨h1, h', a, b⟩ | ⟨h1, h', a, b⟩ | ⟨h1, a, b⟩ <;> first | exact ⟨by omega, a, by omega⟩ | omega
theorem emb2 {x : Nat} (hx : x < 4 * m2 + e2) : emb m1 e1 m2 false x < 4 * (m1 + m2) + (e1 + e2) ∧ sid m1 e1 m2 (emb m1 e1 m2 false x) = false ∧ loc m1 e1 m2 (emb m1 e1 m2 false x) = x := by
  rcases emb_f m1 e1 m2 x with ⟨z, e⟩ | ⟨z, e⟩ <;> rw [e]
  · rcases four m1 e1 m2 (x + 4 * m1) with ⟨h1, a, b⟩ | ⟨h1, h', a, b⟩ | ⟨h1, h', a, b⟩ | ⟨h1, a, b⟩ <;> first | exact ⟨by omega, a, by omega⟩ | omega
  · rcases four m1 e1 m2 (x + 4 * m1 + e1) with ⟨h1, a, b⟩ | ⟨h1, h', a, b⟩ | ⟨h1, h', a, b⟩ | ⟨h1, a, b⟩ <;> first | exact ⟨by omega, a, by omega⟩ | omega
theorem bth1 {A1 A2 : Nat → Int} {x : Nat} (hx : x < 4 * m1 + e1) : bth m1 e1 m2 A1 A2 (emb m1 e1 m2 true x) = A1 x := by
  obtain ⟨_, a, b⟩ := emb1 (m2 := m2) (e2 := 0) hx
  unfold bth
  rw [a, b, if_pos rfl]
theorem bth2 {A1 A2 : Nat → Int} {x : Nat} (hx : x < 4 * m2 + e2) : bth m1 e1 m2 A1 A2 (emb m1 e1 m2 false x) = A2 x := by
  obtain ⟨_, a, b⟩ := emb2 (m1 := m1) (e1 := e1) hx
  unfold bth
  rw [a, b, if_neg (by decide)]
theorem bG1 {g1 g2 : Nat → Nat} {x : Nat} (hx : x < 4 * m1 + e1) : bG m1 e1 m2 g1 g2 (emb m1 e1 m2 true x) = emb m1 e1 m2 true (g1 x) := by
  obtain ⟨_, a, b⟩ := emb1 (m2 := m2) (e2 := 0) hx
  unfold bG
  rw [a, b, if_pos rfl]
theorem bG2 {g1 g2 : Nat → Nat} {x : Nat} (hx : x < 4 * m2 + e2) : bG m1 e1 m2 g1 g2 (emb m1 e1 m2 false x) = emb m1 e1 m2 false (g2 x) := by
  obtain ⟨_, a, b⟩ := emb2 (m1 := m1) (e1 := e1) hx
  unfold bG
  rw [a, b, if_neg (by decide)]
theorem of_two {i : Nat} (hi : i < 4 * (m1 + m2) + (e1 + e2)) : (∃ x, x < 4 * m1 + e1 ∧ i = emb m1 e1 m2 true x) ∨ ∃ x, x < 4 * m2 + e2 ∧ i = emb m1 e1 m2 false x := by
  cases h : sid m1 e1 m2 i with
  | true => exact .inl ⟨_, loc1 hi h, by rw [← h, emb_loc]⟩
  | false => exact .inr ⟨_, loc2 hi h, by rw [← h, emb_loc]⟩
theorem bth_tw {A1 A2 : Nat → Int} {g1 g2 : Nat → Nat} (T1 : M.Tw (4 * m1 + e1) A1 g1) (T2 : M.Tw (4 * m2 + e2) A2 g2) (hd : ∀ x y, x < 4 * m1 + e1 → y < 4 * m2 + e2 → A1 x ≠ A2 y) : M.Tw (4 * (m1 + m2) + (e1 + e2)) (bth m1 e1 m2 A1 A2) (bG m1 e1 m2 g1 g2) := by
  refine ⟨fun i hi => ?_, fun i hi => ?_, fun i hi => ?_, fun i k hi hk h => ?_⟩
  · rcases of_two hi with ⟨x, hx, rfl⟩ | ⟨x, hx, rfl⟩
    · rw [bG1 hx]; exact (emb1 (T1.lt x hx)).1
    · rw [bG2 hx]; exact (emb2 (T2.lt x hx)).1
  · rcases of_two hi with ⟨x, hx, rfl⟩ | ⟨x, hx, rfl⟩
    · rw [bG1 hx]; intro z
      have := congrArg (loc m1 e1 m2) z
      rw [(emb1 (m2 := m2) (e2 := e2) (T1.lt x hx)).2.2, (emb1 (m2 := m2) (e2 := e2) hx).2.2] at this
      exact T1.ne x hx this
    · rw [bG2 hx]; intro z
      have := congrArg (loc m1 e1 m2) z
      rw [(emb2 (m1 := m1) (e1 := e1) (T2.lt x hx)).2.2, (emb2 (m1 := m1) (e1 := e1) hx).2.2] at this
      exact T2.ne x hx this
  · rcases of_two hi with ⟨x, hx, rfl⟩ | ⟨x, hx, rfl⟩
    · rw [bG1 hx, bth1 hx, bth1 (T1.lt x hx), T1.eq x hx]
    · rw [bG2 hx, bth2 hx, bth2 (T2.lt x hx), T2.eq x hx]
  · rcases of_two hi with ⟨x, hx, rfl⟩ | ⟨x, hx, rfl⟩
    · rcases of_two hk with ⟨y, hy, rfl⟩ | ⟨y, hy, rfl⟩
      · rw [bth1 hx, bth1 hy] at h
        rw [bG1 hx]
        rcases T1.only x y hx hy h with z | z
        · exact .inl (by rw [z])
        · exact .inr (by rw [z])
      · rw [bth1 hx, bth2 hy] at h
        exact absurd h.symm (hd x y hx hy)
    · rcases of_two hk with ⟨y, hy, rfl⟩ | ⟨y, hy, rfl⟩
      · rw [bth2 hx, bth1 hy] at h
        exact absurd h (hd y x hy hx)
      · rw [bth2 hx, bth2 hy] at h
        rw [bG2 hx]
        rcases T2.only x y hx hy h with z | z
        · exact .inl (by rw [z])
        · exact .inr (by rw [z])
end
theorem anw_tw {n : Nat} {A : Nat → Int} {g : Nat → Nat} (T : M.Tw n A g) : M.Tw n (M.anw A n) g := by
  refine ⟨T.lt, T.ne, fun i hi => M.anw_twin T hi, fun i k hi hk h => T.only i k hi hk ?_⟩
  unfold M.anw at h
  exact M.ix_inj (M.keys_mem hk) (M.keys_mem hi) (by omega)
theorem keys_same {n : Nat} {A B : Nat → Int} {g : Nat → Nat} (TA : M.Tw n A g) (TB : M.Tw n B g) : ∀ t, t ≤ n → (M.keys A t).length = (M.keys B t).length
  | 0, _ => rfl
  | t + 1, h => by rw [M.keys_len_succ TA (by omega), M.keys_len_succ TB (by omega), keys_same TA TB t (by omega)]
def mny (n : Nat) (A : Nat → Int) : Int := ((M.keys (M.anw A n) n).length : Nat)
theorem anw_lt {n i : Nat} {A : Nat → Int} {g : Nat → Nat} (T : M.Tw n A g) (hi : i < n) : M.anw A n i < mny n A := by
  unfold mny
  rw [← keys_same T (anw_tw T) n (Nat.le_refl _)]
  have := M.ix_lt (M.keys_mem (A := A) hi)
  unfold M.anw
  omega
def twoA (m1 e1 m2 : Nat) (A1 A2 : Nat → Int) : Nat → Int := bth m1 e1 m2 (M.anw A1 (4 * m1 + e1)) fun y => A2 y + mny (4 * m1 + e1) A1
theorem two_tw {m1 e1 m2 e2 : Nat} {A1 A2 : Nat → Int} {g1 g2 : Nat → Nat} (T1 : M.Tw (4 * m1 + e1) A1 g1) (T2 : M.Tw (4 * m2 + e2) A2 g2) (hA : ∀ i, 0 ≤ A2 i) : M.Tw (4 * (m1 + m2) + (e1 + e2)) (twoA m1 e1 m2 A1 A2) (bG m1 e1 m2 g1 g2) := by
  refine bth_tw (anw_tw T1) ⟨T2.lt, T2.ne, fun i hi => by rw [T2.eq i hi], fun i k hi hk h => T2.only i k hi hk (by omega)⟩ fun x y hx hy h => ?_
  have := anw_lt T1 hx
  have := hA y
  omega
def g_raised : GA := fun ds k => ∃ (ns : List Int) (q : Int), ds = [.tup (ns.map .int), .int q] ∧ ns.length ≤ 100 ∧ k (.tup (ns.map fun n => .int (n + q)))
abbrev s_raised : Stmt := top 10
theorem sc_raised : FnScope ["arcs", "many"] ["arcs", "many"] (defScope s_raised) := ⟨rfl, rfl, rfl, by decide +kernel, rfl, by decide +kernel, by decide +kernel⟩
def t_raised : Tg := ⟨fun i => false, []⟩
def w_raised : WS := (wRet (wCall dTuple (wCons (wComp (wSeqD (wVar 0)) wAll (wBin dAddT (wVar 0) (wVar 1)) [1]) wNil)))
theorem b_raised {P : Program} {w : World} {K : PySem.W.Frag} {mg : Str → Option Value} {base : Heap} {f : Addr} (B : Bn mg) : ∀ (cdv : Value) (A : Around) (outer : List PySem.Env) (s : Shared) (H : Hp) (E : XK), Room 0 (A.deeper (envOfC "raised" (defScope s_raised) s.heap.objs.size f cdv)) → SVs (cxOf CX0 P w K mg base ["arcs", "many"] "raised" (defScope s_raised) f cdv A outer s H E).nox t_raised (defBody s_raised) w_raised := fun cdv A outer s H E hr =>
    (svs_one (sv_ret (ev_callTy cd_tuple B.nb_tuple bt_tuple (av_cons (ev_compB (comp_ok [1] (iv_seq (ev_var 0)) (fun _ _ _ _ _ => cv_nil) (fun _ _ _ _ _ => (ev_op od_addT (ev_var 0) (ev_var 1)))) (compB_mk (defScope s_raised) ["arcs", "many"] (by decide +kernel))) av_nil))))
theorem ok_raised {P : Program} {w : World} {K : PySem.W.Frag} {mg : Str → Option Value} {base : Heap} {f : Addr} {fd : FuncData} (F : Fun K "raised" "raised" s_raised f fd) (B : Bn mg) : FnOk P w K mg base CX0 1 f fd ["arcs", "many"] (spR K g_raised) := by
  refine fn_ro (T := t_raised) F sc_raised rfl (by decide) (fun ds kk h => ?_) (b_raised B) (fun ds kk h => ?_)
  · obtain ⟨ns, q, rfl, _⟩ := h
    rfl
  · obtain ⟨ns, q, rfl, hl, k⟩ := h
    simp only [w_raised, wRet, wCall, wCons, env0, List.map_cons, List.map_nil, List.length_cons, List.length_nil, Nat.zero_add, Nat.reduceAdd, List.cons_append, List.nil_append, wNil, r_comp, r_seq, r_var, look, oget_s, r_seqT, pure_ints, true_and]
    refine compI_map (dF (· + q)) (by rw [List.length_map]; exact big (by omega)) (fun d hd Q' hQ => ?_) ?_
    · obtain ⟨n, hn, rfl⟩ := List.mem_map.mp hd
      simp only [wBin, blkE, List.map_cons, look, List.map_nil, r_var, oget_s, r2_add]
      exact hQ
    · simp only [r_tupL]
      rw [List.map_map]
      exact ⟨pureL_map fun _ _ => rfl, k⟩
def g_both : GA := fun ds k => ∃ (m1 e1 : Nat) (A1 : Nat → Int) (r1 : Int) (m2 e2 : Nat) (A2 : Nat → Int) (r2 : Int), ds = [webD m1 e1 A1 r1, webD m2 e2 A2 r2] ∧ m1 ≤ 20 ∧ e1 ≤ 20 ∧ m2 ≤ 20 ∧ e2 ≤ 20 ∧ k (webD (m1 + m2) (e1 + e2) (twoA m1 e1 m2 A1 A2) (r1 + r2))
abbrev s_both : Stmt := top 11
theorem sc_both : FnScope ["one", "other", "first", "many", "crossings"] ["one", "other"] (defScope s_both) := ⟨rfl, rfl, rfl, by decide +kernel, rfl, by decide +kernel, by decide +kernel⟩
def t_both : Tg := ⟨fun i => i == 2 || i == 3 || i == 4, []⟩
def w_both : WS := (wSeq (wSet 2 (wCall g_named_anew (wCons (wVar 0) wNil)))
  (wSeq (wSet 3 (wCall dLen (wCons (wCall g_places (wCons (wVar 2) wNil)) wNil)))
  (wSeq (wSet 4 (wBin dAddT (wBin dIx (wVar 2) (wC (.int 0))) (wCall dTuple (wCons (wComp (wSeqD (wBin dIx (wVar 1) (wC (.int 0)))) wAll (wCall g_raised (wCons (wVar 0) (wCons (wVar 1) wNil))) [3]) wNil))))
  (wRet (wLift (wTup (wCons (wVar 4) (wCons (wBin dAddT (wBin dIx (wVar 2) (wC (.int 1))) (wCall g_raised (wCons (wBin dIx (wVar 1) (wC (.int 1))) (wCons (wVar 3) wNil)))) (wCons (wBin dAddT (wBin dIx (wVar 2) (wC (.int 2))) (wBin dIx (wVar 1) (wC (.int 2)))) wNil)))))))))
theorem b_both {P : Program} {w : World} {K : PySem.W.Frag} {mg : Str → Option Value} {base : Heap} {f : Addr} (B : Bn mg) (C_places : Cal P w K mg base "places" 1 ["web"] (spR K g_places)) (C_named_anew : Cal P w K mg base "named_anew" 2 ["web"] (spR K g_named_anew)) (C_raised : Cal P w K mg base "raised" 1 ["arcs", "many"] (spR K g_raised)) : ∀ (cdv : Value) (A : Around) (outer : List PySem.Env) (s : Shared) (H : Hp) (E : XK), Room 2 (A.deeper (envOfC "both" (defScope s_both) s.heap.objs.size f cdv)) → SVs (cxOf CX0 P w K mg base ["one", "other", "first", "many", "crossings"] "both" (defScope s_both) f cdv A outer s H E).nox t_both (defBody s_both) w_both := fun cdv A outer s H E hr =>
    (svs_cons (sv_set (i := 2) (ev_callC C_named_anew (hr.mono (by decide)) (av_cons (ev_var 0) av_nil)) sc_both.nd)
    (svs_cons (sv_set (i := 3) (ev_callB cd_len B.nb_len bt_len (av_cons (ev_callC C_places (hr.mono (by decide)) (av_cons (ev_var 2) av_nil)) av_nil)) sc_both.nd)
    (svs_cons (sv_set (i := 4) (ev_op od_addT (ev_ix (xd_ix (hu_of hr)) (ev_var 2) ev_int) (ev_callTy cd_tuple B.nb_tuple bt_tuple (av_cons (ev_compB (comp_ok [3] (iv_seq (ev_ix (xd_ix (hu_of hr)) (ev_var 1) ev_int)) (fun _ _ _ _ _ => cv_nil) (fun _ _ _ _ _ => (ev_callC C_raised (hr.mono (by decide)) (av_cons (ev_var 0) (av_cons (ev_var 1) av_nil))))) (compB_mk (defScope s_both) ["one", "other", "first", "many", "crossings"] (by decide +kernel))) av_nil))) sc_both.nd)
    (svs_one (sv_ret (ev_lift (ev_tup (av_cons (ev_var 4) (av_cons (ev_op od_addT (ev_ix (xd_ix (hu_of hr)) (ev_var 2) ev_int) (ev_callC C_raised (hr.mono (by decide)) (av_cons (ev_ix (xd_ix (hu_of hr)) (ev_var 1) ev_int) (av_cons (ev_var 3) av_nil)))) (av_cons (ev_op od_addT (ev_ix (xd_ix (hu_of hr)) (ev_var 2) ev_int) (ev_ix (xd_ix (hu_of hr)) (ev_var 1) ev_int)) av_nil))))))))))
theorem ok_both {P : Program} {w : World} {K : PySem.W.Frag} {mg : Str → Option Value} {base : Heap} {f : Addr} {fd : FuncData} (F : Fun K "both" "both" s_both f fd) (B : Bn mg) (C1 : Cal P w K mg base "places" 1 ["web"] (spR K g_places)) (C2 : Cal P w K mg base "named_anew" 2 ["web"] (spR K g_named_anew)) (C3 : Cal P w K mg base "raised" 1 ["arcs", "many"] (spR K g_raised)) : FnOk P w K mg base CX0 3 f fd ["one", "other"] (spR K g_both) := by
  refine fn_ro (T := t_both) F sc_both rfl (by decide) (fun ds kk h => ?_) (b_both B C1 C2 C3) (fun ds kk h => ?_)
  · obtain ⟨m1, e1, A1, r1, m2, e2, A2, r2, rfl, _⟩ := h
    rfl
  · obtain ⟨m1, e1, A1, r1, m2, e2, A2, r2, rfl, hm1, he1, hm2, he2, k⟩ := h
    simp only [w_both, wSeq, wSet, wCall, wCons, env0, List.map_cons, List.map_nil, List.length_cons, List.length_nil, Nat.zero_add, Nat.reduceAdd, List.replicate, List.cons_append, List.nil_append, wNil, wBin, wC, wRet, wLift, wTup, sz3, D.pure, pureL, Bool.and_true, true_and, r_var, r_comp, r_seq, look, List.set_cons_succ, List.set_cons_zero, oget_s]
    refine ⟨m1, e1, A1, r1, rfl, by omega, by omega, ?_⟩
    simp only []
    refine ⟨m1, e1, _, r1, rfl, by omega, by omega, ?_⟩
    have hmn : ((encP (spD m1) (M.plc (M.anw A1 (4 * m1 + e1)) (4 * m1 + e1))).length : Int) = mny (4 * m1 + e1) A1 := by
      unfold mny M.keys encP
      rw [List.length_map, List.length_map]
    have pcr : ∀ (m : Nat) (A : Nat → Int), pureL ((List.range m).map fun k => D.tup ((List.range 4).map fun j => .int (A (4 * k + j)))) = true := fun m A => pureL_map fun _ _ => by simp only [D.pure]; exact pureL_map fun _ _ => rfl
    have pin : ∀ (e a : Nat) (A : Nat → Int), pureL ((List.range e).map fun j => D.int (A (a + j))) = true := fun e a A => pureL_map fun _ _ => rfl
    simp only [webD, r_ixT, atI_0, List.getElem?_cons_zero, oget_s, r_seqT, pcr, true_and, r_lenD, hmn]
    refine compI_map (nmF (· + mny (4 * m1 + e1) A1)) (by rw [List.length_map, List.length_range]; exact big (by omega)) (fun d hd Q' hQ => ?_) ?_
    · obtain ⟨kk, hk, rfl⟩ := List.mem_map.mp hd
      simp only [wCall, wCons, blkE, List.map_cons, look, List.map_nil, wNil, r_var, oget_s]
      refine ⟨(List.range 4).map fun j => A2 (4 * kk + j), _, by rw [List.map_map]; rfl, by simp, ?_⟩
      rw [List.map_map]
      exact hQ
    · have e1' : ((List.range m2).map fun k => D.tup ((List.range 4).map fun j => .int (A2 (4 * k + j)))).map (nmF (· + mny (4 * m1 + e1) A1)) = (List.range m2).map fun k => D.tup ((List.range 4).map fun j => .int ((fun y => A2 y + mny (4 * m1 + e1) A1) (4 * k + j))) := by
        rw [List.map_map]; rfl
      rw [e1']
      have c1 : (List.range m1).map (fun k => D.tup ((List.range 4).map fun j => .int (M.anw A1 (4 * m1 + e1) (4 * k + j)))) ++ (List.range m2).map (fun k => D.tup ((List.range 4).map fun j => .int ((fun y => A2 y + mny (4 * m1 + e1) A1) (4 * k + j)))) = (List.range (m1 + m2)).map fun k => D.tup ((List.range 4).map fun j => .int (twoA m1 e1 m2 A1 A2 (4 * k + j))) := by
        rw [range_addD]
        congr 1
        · refine List.map_congr_left fun k hk => congrArg D.tup (List.map_congr_left fun j hj => congrArg D.int ?_)
          have hk := List.mem_range.mp hk
          have hj := List.mem_range.mp hj
          have z := bth1 (m1 := m1) (e1 := e1) (m2 := m2) (A1 := M.anw A1 (4 * m1 + e1)) (A2 := fun y => A2 y + mny (4 * m1 + e1) A1) (x := 4 * k + j) (by omega)
          rcases emb_t m1 e1 m2 (4 * k + j) with ⟨_, q⟩ | ⟨q, _⟩
          · rw [q] at z; exact z.symm
          · omega
        · refine List.map_congr_left fun k hk => congrArg D.tup (List.map_congr_left fun j hj => congrArg D.int ?_)
          have hk := List.mem_range.mp hk
          have hj := List.mem_range.mp hj
          have z := bth2 (m1 := m1) (e1 := e1) (m2 := m2) (e2 := e2) (A1 := M.anw A1 (4 * m1 + e1)) (A2 := fun y => A2 y + mny (4 * m1 + e1) A1) (x := 4 * k + j) (by omega)
          rcases emb_f m1 e1 m2 (4 * k + j) with ⟨_, q⟩ | ⟨q, _⟩
          · rw [q, show 4 * k + j + 4 * m1 = 4 * (m1 + k) + j by omega] at z; exact z.symm
          · omega
      have c2 : (List.range e1).map (fun j => D.int (M.anw A1 (4 * m1 + e1) (4 * m1 + j))) ++ (List.range e2).map (fun j => D.int ((fun y => A2 y + mny (4 * m1 + e1) A1) (4 * m2 + j))) = (List.range (e1 + e2)).map fun j => .int (twoA m1 e1 m2 A1 A2 (4 * (m1 + m2) + j)) := by
        rw [range_addD]
        congr 1
        · refine List.map_congr_left fun j hj => congrArg D.int ?_
          have hj := List.mem_range.mp hj
          have z := bth1 (m1 := m1) (e1 := e1) (m2 := m2) (A1 := M.anw A1 (4 * m1 + e1)) (A2 := fun y => A2 y + mny (4 * m1 + e1) A1) (x := 4 * m1 + j) (by omega)
          rcases emb_t m1 e1 m2 (4 * m1 + j) with ⟨q, _⟩ | ⟨_, q⟩
          · omega
          · rw [q, show 4 * m1 + j + 4 * m2 = 4 * (m1 + m2) + j by omega] at z; exact z.symm
        · refine List.map_congr_left fun j hj => congrArg D.int ?_
          have hj := List.mem_range.mp hj
          have z := bth2 (m1 := m1) (e1 := e1) (m2 := m2) (e2 := e2) (A1 := M.anw A1 (4 * m1 + e1)) (A2 := fun y => A2 y + mny (4 * m1 + e1) A1) (x := 4 * m2 + j) (by omega)
          rcases emb_f m1 e1 m2 (4 * m2 + j) with ⟨q, _⟩ | ⟨_, q⟩
          · omega
          · rw [q, show 4 * m2 + j + 4 * m1 + e1 = 4 * (m1 + m2) + (e1 + j) by omega] at z; exact z.symm
      have pc2 : pureL ((List.range m2).map fun k => D.tup ((List.range 4).map fun j => .int ((fun y => A2 y + mny (4 * m1 + e1) A1) (4 * k + j)))) = true := pcr m2 fun y => A2 y + mny (4 * m1 + e1) A1
      simp only [List.set_cons_succ, List.set_cons_zero, look, oget_s, r_ixT, atI_2, List.getElem?_cons_succ, List.getElem?_cons_zero, r2_add, D.pure, Bool.and_true, atI_1, r_tupL, pc2, r2_addT, pcr, List.length_map, List.length_range, c1, Bool.true_and, true_and]
      refine ⟨Nat.le_of_lt (big (by omega)), (List.range e2).map fun j => A2 (4 * m2 + j), _, by rw [List.map_map]; rfl, by simp; omega, ?_⟩
      rw [List.map_map]
      have e3 : (List.range e2).map ((fun n => D.int (n + mny (4 * m1 + e1) A1)) ∘ fun j => A2 (4 * m2 + j)) = (List.range e2).map (fun j => D.int ((fun y => A2 y + mny (4 * m1 + e1) A1) (4 * m2 + j))) := rfl
      rw [e3]
      have pi2 : pureL ((List.range e2).map (fun j => D.int ((fun y => A2 y + mny (4 * m1 + e1) A1) (4 * m2 + j)))) = true := pureL_map fun _ _ => rfl
      simp only [r2_addT, pin, pi2, List.length_map, List.length_range, D.pure, c2, true_and]
      exact ⟨Nat.le_of_lt (big (by omega)), k⟩
def itS (m e1 : Nat) (x : Nat × (Nat → Int) × Int) : Nat → Nat × (Nat → Int) × Int
  | 0 => x
  | k + 1 => ((M.rest (itS m e1 x k).1 (e1 - 1 - k) (aft (itS m e1 x k).1 (e1 - 1 - k))).length, shA m (itS m e1 x k).1 (e1 - 1 - k) (itS m e1 x k).2.1, shR m (itS m e1 x k).1 (e1 - 1 - k) (itS m e1 x k).2.1 (itS m e1 x k).2.2)
theorem it_len {m e1 e2 : Nat} {B : Nat → Int} {r : Int} : ∀ k, k ≤ e1 → k ≤ e2 → (itS m e1 (e1 + e2, B, r) k).1 + 2 * k = e1 + e2
  | 0, _, _ => rfl
  | k + 1, h1, h2 => by
    have ih := it_len (m := m) (B := B) (r := r) k (by omega : k ≤ e1) (by omega : k ≤ e2)
    have := M.rest_len (e := (itS m e1 (e1 + e2, B, r) k).1) (p := e1 - 1 - k) (by omega) (aft_lt (by omega)) (aft_ne (by omega) (by omega))
    show (M.rest _ _ _).length + _ = _
    omega
def g_glued : GA := fun ds k => ∃ (m1 e1 : Nat) (A1 : Nat → Int) (r1 : Int) (m2 e2 : Nat) (A2 : Nat → Int) (r2 : Int) (c : Nat), ds = [webD m1 e1 A1 r1, webD m2 e2 A2 r2, .int c] ∧ m1 ≤ 10 ∧ e1 ≤ 10 ∧ m2 ≤ 10 ∧ e2 ≤ 10 ∧ c ≤ e1 ∧ c ≤ e2 ∧
  k (webD (m1 + m2) (itS (m1 + m2) e1 (e1 + e2, twoA m1 e1 m2 A1 A2, r1 + r2) c).1 (M.anw (itS (m1 + m2) e1 (e1 + e2, twoA m1 e1 m2 A1 A2, r1 + r2) c).2.1 (4 * (m1 + m2) + (itS (m1 + m2) e1 (e1 + e2, twoA m1 e1 m2 A1 A2, r1 + r2) c).1)) (itS (m1 + m2) e1 (e1 + e2, twoA m1 e1 m2 A1 A2, r1 + r2) c).2.2)
abbrev s_glued : Stmt := top 12
theorem sc_glued : FnScope ["one", "other", "many", "web", "k"] ["one", "other", "many"] (defScope s_glued) := ⟨rfl, rfl, rfl, by decide +kernel, rfl, by decide +kernel, by decide +kernel⟩
def t_glued : Tg := ⟨fun i => i == 3 || i == 4, []⟩
def w_glued : WS := (wSeq (wSet 3 (wCall g_both (wCons (wVar 0) (wCons (wVar 1) wNil))))
  (wSeq (wFor (wRng1 (wCons (wVar 2) wNil)) (gN 4) (wSet 3 (wCall g_shut_as_named (wCons (wVar 3) (wCons (wBin dSub (wBin dSub (wCall dLen (wCons (wBin dIx (wVar 0) (wC (.int 1))) wNil)) (wC (.int 1))) (wVar 4)) wNil)))))
  (wRet (wCall g_named_anew (wCons (wVar 3) wNil)))))
theorem b_glued {P : Program} {w : World} {K : PySem.W.Frag} {mg : Str → Option Value} {base : Heap} {f : Addr} (B : Bn mg) (C_named_anew : Cal P w K mg base "named_anew" 2 ["web"] (spR K g_named_anew)) (C_shut_as_named : Cal P w K mg base "shut_as_named" 2 ["web", "place"] (spR K g_shut_as_named)) (C_both : Cal P w K mg base "both" 3 ["one", "other"] (spR K g_both)) : ∀ (cdv : Value) (A : Around) (outer : List PySem.Env) (s : Shared) (H : Hp) (E : XK), Room 3 (A.deeper (envOfC "glued" (defScope s_glued) s.heap.objs.size f cdv)) → SVs (cxOf CX0 P w K mg base ["one", "other", "many", "web", "k"] "glued" (defScope s_glued) f cdv A outer s H E).nox t_glued (defBody s_glued) w_glued := fun cdv A outer s H E hr =>
    (svs_cons (sv_set (i := 3) (ev_callC C_both (hr.mono (by decide)) (av_cons (ev_var 0) (av_cons (ev_var 1) av_nil))) sc_glued.nd)
    (svs_cons (sv_for PassesOwn.never (iv_range1 B.nb_range (av_cons (ev_var 2) av_nil)) (gv_name (i := 4) sc_glued.nd) (svs_one (sv_set (i := 3) (ev_callC C_shut_as_named (hr.mono (by decide)) (av_cons (ev_var 3) (av_cons (ev_op od_sub (ev_op od_sub (ev_callB cd_len B.nb_len bt_len (av_cons (ev_ix (xd_ix (hu_of hr)) (ev_var 0) ev_int) av_nil)) ev_int) (ev_var 4)) av_nil))) sc_glued.nd)))
    (svs_one (sv_ret (ev_callC C_named_anew (hr.mono (by decide)) (av_cons (ev_var 3) av_nil))))))
theorem ok_glued {P : Program} {w : World} {K : PySem.W.Frag} {mg : Str → Option Value} {base : Heap} {f : Addr} {fd : FuncData} (F : Fun K "glued" "glued" s_glued f fd) (B : Bn mg) (C1 : Cal P w K mg base "named_anew" 2 ["web"] (spR K g_named_anew)) (C2 : Cal P w K mg base "shut_as_named" 2 ["web", "place"] (spR K g_shut_as_named)) (C3 : Cal P w K mg base "both" 3 ["one", "other"] (spR K g_both)) : FnOk P w K mg base CX0 4 f fd ["one", "other", "many"] (spR K g_glued) := by
  refine fn_ro (T := t_glued) F sc_glued rfl (by decide) (fun ds kk h => ?_) (b_glued B C1 C2 C3) (fun ds kk h => ?_)
  · obtain ⟨m1, e1, A1, r1, m2, e2, A2, r2, c, rfl, _⟩ := h
    rfl
  · obtain ⟨m1, e1, A1, r1, m2, e2, A2, r2, c, rfl, hm1, he1, hm2, he2, hc1, hc2, k⟩ := h
    generalize hx : (e1 + e2, twoA m1 e1 m2 A1 A2, r1 + r2) = x at k
    have hlen : ∀ k, k ≤ c → (itS (m1 + m2) e1 x k).1 + 2 * k = e1 + e2 := fun k hk => by rw [← hx]; exact it_len k (by omega) (by omega)
    have hl1 : ∀ (kq : D → Prop), dIx (webD m1 e1 A1 r1) (.int 1) (fun d => dLen [d] kq) = kq (.int e1) := fun kq => by
      simp only [webD, r_ixT, atI_1, List.getElem?_cons_succ, List.getElem?_cons_zero, oget_s, r_lenT, List.length_map, List.length_range]
    simp only [w_glued, wSeq, wSet, wCall, wCons, env0, List.map_cons, List.map_nil, List.length_cons, List.length_nil, Nat.zero_add, Nat.reduceAdd, List.replicate, List.cons_append, List.nil_append, wNil, r_for, r_rng1, r_var, look, List.set_cons_succ, List.set_cons_zero, oget_s, r_rng1I, Int.reducePow, Int.reduceNeg, Int.toNat_natCast]
    refine ⟨m1, e1, A1, r1, m2, e2, A2, r2, rfl, by omega, by omega, by omega, by omega, ?_⟩
    simp only [Int.reduceNeg]
    refine ⟨by omega, by omega, pure_rngD, fun t ρ => ∃ o4 : Option D, t ≤ c ∧ ρ = [some (webD m1 e1 A1 r1), some (webD m2 e2 A2 r2), some (.int c), some (webD (m1 + m2) (itS (m1 + m2) e1 x t).1 (itS (m1 + m2) e1 x t).2.1 (itS (m1 + m2) e1 x t).2.2), o4], ⟨none, Nat.zero_le _, by rw [← hx]; rfl⟩, ?_, ?_⟩
    · rintro t d ρ hd ⟨o4, _, rfl⟩
      obtain ⟨ht, rfl⟩ := rngD_get hd
      have hlt := hlen t (by omega)
      simp only [gN, wSet, wCall, wCons, Int.zero_add, List.set_cons_succ, List.set_cons_zero, wBin, wC, wNil, r_var, look, oget_s, hl1, r_sub]
      rw [show (e1 : Int) - 1 - (t : Int) = ((e1 - 1 - t : Nat) : Int) by omega]
      exact ⟨m1 + m2, _, _, _, e1 - 1 - t, rfl, by omega, by omega, by omega, by omega, _, ht, rfl⟩
    · rintro ρ ⟨o4, _, rfl⟩
      have hlt := hlen c (Nat.le_refl _)
      simp only [wRet, wCall, wCons, rngD_length, wNil, r_var, look, oget_s]
      exact ⟨m1 + m2, _, _, _, rfl, by omega, by omega, k⟩
end K57
set_option Elab.async false
set_option linter.all false
set_option maxRecDepth 100000
set_option maxHeartbeats 4000000
namespace K57
open PySem PySem.Spec L2 PV
open PyProof.Rows (envOfC)
open M (tie)
def rg (G : Nat → Nat) (a b : Nat) : Int := if G a = b then 1 else 0
structure Prt (S : Nat → Prop) (G : Nat → Nat) : Prop where
  st : ∀ x, S x → S (G x)
  ne : ∀ x, S x → G x ≠ x
  inv : ∀ x, S x → G (G x) = x
theorem Prt.inj {S : Nat → Prop} {G : Nat → Nat} (P : Prt S G) {x y : Nat} (hx : S x) (hy : S y) (h : G x = G y) : x = y := by rw [← P.inv x hx, h, P.inv y hy]
def less (S : Nat → Prop) (a b : Nat) : Nat → Prop := fun x => S x ∧ x ≠ a ∧ x ≠ b
theorem Prt.tie {S : Nat → Prop} {G : Nat → Nat} (P : Prt S G) {a b : Nat} (ha : S a) (hb : S b) (hab : a ≠ b) : Prt (less S a b) (tie G a b) := by
  have key : ∀ x, less S a b x → less S a b (M.tie G a b x) ∧ M.tie G a b x ≠ x ∧ M.tie G a b (M.tie G a b x) = x := fun x ⟨hx, h1, h2⟩ => by
    have sa := P.st a ha; have sb := P.st b hb; have sx := P.st x hx
    have na := P.ne a ha; have nb := P.ne b hb; have nx := P.ne x hx
    have ia := P.inv a ha; have ib := P.inv b hb; have ix := P.inv x hx
    have gab : G a ≠ G b := fun z => hab (P.inj ha hb z)
    unfold M.tie
    by_cases c1 : x = G a
    · rw [if_pos c1]
      have q : G b ≠ a := fun z => h2 (by rw [c1, ← z, ib])
      refine ⟨⟨sb, q, nb⟩, fun z => gab (by rw [← c1, z]), ?_⟩
      rw [if_neg (fun z => gab z.symm), if_pos rfl, c1]
    · rw [if_neg c1]
      by_cases c2 : x = G b
      · rw [if_pos c2]
        have q : G a ≠ b := fun z => h1 (by rw [c2, ← z, ia])
        refine ⟨⟨sa, na, q⟩, fun z => c1 z.symm, ?_⟩
        rw [if_pos rfl, c2]
      · rw [if_neg c2]
        have q1 : G x ≠ a := fun z => c1 (by rw [← z, ix])
        have q2 : G x ≠ b := fun z => c2 (by rw [← z, ix])
        refine ⟨⟨sx, q1, q2⟩, nx, ?_⟩
        rw [if_neg (fun z => h1 (P.inj hx ha z)), if_neg (fun z => h2 (P.inj hx hb z)), ix]
  exact ⟨fun x hx => (key x hx).1, fun x hx => (key x hx).2.1, fun x hx => (key x hx).2.2⟩
theorem tie_swap {S : Nat → Prop} {G : Nat → Nat} (P : Prt S G) {a b c d x : Nat} (ha : S a) (hb : S b) (hc : S c) (hd : S d) (hx : S x) (hab : a ≠ b) (hac : a ≠ c) (had : a ≠ d) (hbc : b ≠ c) (hbd : b ≠ d) (hcd : c ≠ d) (xa : x ≠ a) (xb : x ≠ b) (xc : x ≠ c) (xd : x ≠ d) :
    tie (tie G a b) c d x = tie (tie G c d) a b x := by
  have ia := P.inv a ha; have ib := P.inv b hb; have ic := P.inv c hc; have id := P.inv d hd; have ix := P.inv x hx
  clear P ha hb hc hd hx
  unfold M.tie
  grind (splits := 30)
theorem rg_swap {S : Nat → Prop} {G : Nat → Nat} (P : Prt S G) {a b c d : Nat} (ha : S a) (hb : S b) (hc : S c) (hd : S d) (hab : a ≠ b) (hac : a ≠ c) (had : a ≠ d) (hbc : b ≠ c) (hbd : b ≠ d) (hcd : c ≠ d) :
    rg G a b + rg (tie G a b) c d = rg G c d + rg (tie G c d) a b := by
  have ia := P.inv a ha; have ib := P.inv b hb; have ic := P.inv c hc; have id := P.inv d hd
  clear P ha hb hc hd
  unfold rg M.tie
  grind (splits := 30)
structure Out (m e : Nat) (A : Nat → Int) (h o : Nat → Nat) (S : Nat → Prop) (G : Nat → Nat) : Prop where
  tw : M.Tw (4 * m + e) A h
  mem : ∀ i, i < 4 * m + e → S (o i)
  inj : ∀ i j, i < 4 * m + e → j < 4 * m + e → o i = o j → i = j
  map : ∀ i, i < 4 * m + e → o (h i) = G (o i)
theorem tie_map {n : Nat} {h o G : Nat → Nat} {a b x : Nat} (lt : ∀ i, i < n → h i < n) (inj : ∀ i j, i < n → j < n → o i = o j → i = j) (map : ∀ i, i < n → o (h i) = G (o i)) (ha : a < n) (hb : b < n) (hx : x < n) : o (tie h a b x) = tie G (o a) (o b) (o x) := by
  unfold M.tie
  rw [← map a ha, ← map b hb, ← map x hx]
  by_cases c1 : x = h a
  · rw [if_pos c1, if_pos (by rw [c1])]
  · rw [if_neg c1, if_neg (fun z => c1 (inj _ _ hx (lt a ha) z))]
    by_cases c2 : x = h b
    · rw [if_pos c2, if_pos (by rw [c2])]
    · rw [if_neg c2, if_neg (fun z => c2 (inj _ _ hx (lt b hb) z))]
theorem Out.shut {m e : Nat} {A : Nat → Int} {h o : Nat → Nat} {S : Nat → Prop} {G : Nat → Nat} {p : Nat} (O : Out m e A h o S G) (hp : p < e) (he : 2 ≤ e) (r : Int) :
    (∃ h', Out m (M.rest e p (aft e p)).length (shA m e p A) h' (fun i => o (M.old m e p (aft e p) i)) (less S (o (4 * m + p)) (o (4 * m + aft e p))) (tie G (o (4 * m + p)) (o (4 * m + aft e p)))) ∧ shR m e p A r = r + rg G (o (4 * m + p)) (o (4 * m + aft e p)) := by
  have hq := aft_lt (p := p) (show 0 < e by omega)
  have hpq := aft_ne he hp
  obtain ⟨h', tw', hh⟩ := M.shut_tw O.tw hp hq hpq
  have la : 4 * m + p < 4 * m + e := by omega
  have lb : 4 * m + aft e p < 4 * m + e := by omega
  refine ⟨⟨h', tw', fun i hi => ?_, fun i j hi hj z => ?_, fun i hi => ?_⟩, ?_⟩
  · obtain ⟨o1, o2, o3⟩ := M.old_lt (m := m) hi
    exact ⟨O.mem _ o1, fun z => o2 (O.inj _ _ o1 la z), fun z => o3 (O.inj _ _ o1 lb z)⟩
  · exact M.old_inj hi hj (O.inj _ _ (M.old_lt (m := m) hi).1 (M.old_lt (m := m) hj).1 z)
  · show o (M.old m e p (aft e p) (h' i)) = _
    rw [hh i hi, tie_map O.tw.lt O.inj O.map la lb (M.old_lt (m := m) hi).1]
  · unfold shR rg
    rw [← O.map _ la]
    by_cases c : A (4 * m + p) = A (4 * m + aft e p)
    · rw [if_pos c, if_pos]
      rcases O.tw.only _ _ la lb c.symm with z | z
      · omega
      · rw [z]
    · rw [if_neg c, if_neg, Int.add_zero]
      intro z
      exact c (by rw [← O.inj _ _ (O.tw.lt _ la) lb z, O.tw.eq _ la])
theorem Out.named {m e : Nat} {A : Nat → Int} {h o : Nat → Nat} {S : Nat → Prop} {G : Nat → Nat} (O : Out m e A h o S G) : Out m e (M.anw A (4 * m + e)) h o S G := ⟨anw_tw O.tw, O.mem, O.inj, O.map⟩
theorem Out.congr {m e : Nat} {A : Nat → Int} {h o o' : Nat → Nat} {S S' : Nat → Prop} {G G' : Nat → Nat} (O : Out m e A h o S G) (ho : ∀ i, i < 4 * m + e → o i = o' i) (hs : ∀ x, S x → S' x) (hg : ∀ x, S x → G x = G' x) : Out m e A h o' S' G' :=
  ⟨O.tw, fun i hi => by rw [← ho i hi]; exact hs _ (O.mem i hi), fun i j hi hj z => O.inj i j hi hj (by rw [ho i hi, ho j hj, z]), fun i hi => by rw [← ho i hi, ← ho _ (O.tw.lt i hi), O.map i hi, hg _ (O.mem i hi)]⟩
theorem rest_adj {e p : Nat} (h : p + 1 < e) : M.rest e p (p + 1) = List.range p ++ (List.range (e - p - 2)).map (p + 2 + ·) := by
  unfold M.rest
  have e1 : List.range e = List.range p ++ ((List.range 2).map (p + ·) ++ (List.range (e - p - 2)).map (p + 2 + ·)) := by
    have : e = p + (2 + (e - p - 2)) := by omega
    rw [this, List.range_add, List.range_add, List.map_append, List.map_map]
    congr 2
    rw [show p + (2 + (e - p - 2)) - p - 2 = e - p - 2 by omega]
    refine List.map_congr_left fun a _ => ?_
    show p + (2 + a) = p + 2 + a
    omega
  rw [e1, List.filter_append, List.filter_append]
  have f1 : (List.range p).filter (fun j => decide (j ≠ p ∧ j ≠ p + 1)) = List.range p := List.filter_eq_self.mpr fun a ha => by
    have := List.mem_range.mp ha
    exact decide_eq_true ⟨by omega, by omega⟩
  have f2 : ((List.range 2).map (p + ·)).filter (fun j => decide (j ≠ p ∧ j ≠ p + 1)) = [] := List.filter_eq_nil_iff.mpr fun a ha => by
    obtain ⟨b, hb, rfl⟩ := List.mem_map.mp ha
    have := List.mem_range.mp hb
    simp only [decide_eq_true_eq]
    omega
  have f3 : ((List.range (e - p - 2)).map (p + 2 + ·)).filter (fun j => decide (j ≠ p ∧ j ≠ p + 1)) = (List.range (e - p - 2)).map (p + 2 + ·) := List.filter_eq_self.mpr fun a ha => by
    obtain ⟨b, hb, rfl⟩ := List.mem_map.mp ha
    exact decide_eq_true ⟨by omega, by omega⟩
  rw [f1, f2, f3, List.nil_append]
theorem old_adj {m e p i : Nat} (h : p + 1 < e) (hi : i < 4 * m + (e - 2)) : M.old m e p (p + 1) i = if i < 4 * m + p then i else i + 2 := by
  by_cases h1 : i < 4 * m
  · rw [M.old_in h1, if_pos (by omega)]
  · obtain ⟨j, rfl⟩ : ∃ j, i = 4 * m + j := ⟨i - 4 * m, by omega⟩
    rw [M.old_out, rest_adj h, List.getD_eq_getElem?_getD]
    by_cases h2 : j < p
    · rw [List.getElem?_append_left (by simpa using h2), List.getElem?_range h2, if_pos (by omega)]
      rfl
    · rw [List.getElem?_append_right (by simp; omega), List.length_range, List.getElem?_map, List.getElem?_range (by omega), if_neg (by omega)]
      show 4 * m + (p + 2 + (j - p)) = _
      omega
end K57
set_option Elab.async false
set_option linter.all false
set_option maxHeartbeats 4000000
namespace K57
open M (tie)
def tiesL (G : Nat → Nat) : List (Nat × Nat) → Nat → Nat
  | [] => G
  | q :: r => tiesL (tie G q.1 q.2) r
def rgL (G : Nat → Nat) : List (Nat × Nat) → Int
  | [] => 0
  | q :: r => rg G q.1 q.2 + rgL (tie G q.1 q.2) r
def lessL (S : Nat → Prop) : List (Nat × Nat) → Nat → Prop
  | [] => S
  | q :: r => lessL (less S q.1 q.2) r
def Apart (S : Nat → Prop) : List (Nat × Nat) → Prop
  | [] => True
  | q :: r => S q.1 ∧ S q.2 ∧ q.1 ≠ q.2 ∧ Apart (less S q.1 q.2) r
theorem Prt.tiesL {S : Nat → Prop} {G : Nat → Nat} : ∀ {J : List (Nat × Nat)}, Prt S G → Apart S J → Prt (lessL S J) (tiesL G J)
  | [], P, _ => P
  | q :: r, P, ⟨h1, h2, h3, h4⟩ => Prt.tiesL (J := r) (P.tie h1 h2 h3) h4
theorem tie_congr {S : Nat → Prop} {G G' : Nat → Nat} {a b x : Nat} (h : ∀ x, S x → G x = G' x) (ha : S a) (hb : S b) (hx : S x) : tie G a b x = tie G' a b x := by
  unfold M.tie
  rw [h a ha, h b hb, h x hx]
theorem tiesL_congr {S : Nat → Prop} {G G' : Nat → Nat} : ∀ {J : List (Nat × Nat)}, (∀ x, S x → G x = G' x) → Apart S J → ∀ x, lessL S J x → tiesL G J x = tiesL G' J x
  | [], h, _, x, hx => h x hx
  | q :: r, h, ⟨h1, h2, _, h4⟩, x, hx => tiesL_congr (J := r) (fun y hy => tie_congr h h1 h2 hy.1) h4 x hx
theorem rgL_congr {S : Nat → Prop} {G G' : Nat → Nat} : ∀ {J : List (Nat × Nat)}, (∀ x, S x → G x = G' x) → Apart S J → rgL G J = rgL G' J
  | [], _, _ => rfl
  | q :: r, h, ⟨h1, h2, _, h4⟩ => by
    show rg G q.1 q.2 + rgL (tie G q.1 q.2) r = rg G' q.1 q.2 + rgL (tie G' q.1 q.2) r
    rw [rgL_congr (J := r) (fun y hy => tie_congr h h1 h2 hy.1) h4]
    unfold rg
    rw [h _ h1]
theorem lessL_mono {S S' : Nat → Prop} : ∀ {J : List (Nat × Nat)} {x : Nat}, (∀ x, S x → S' x) → lessL S J x → lessL S' J x
  | [], _, h, z => h _ z
  | q :: r, x, h, z => lessL_mono (J := r) (fun y hy => ⟨h y hy.1, hy.2⟩) z
theorem apart_mono {S S' : Nat → Prop} : ∀ {J : List (Nat × Nat)}, (∀ x, S x → S' x) → Apart S J → Apart S' J
  | [], _, _ => trivial
  | q :: r, h, ⟨h1, h2, h3, h4⟩ => ⟨h _ h1, h _ h2, h3, apart_mono (J := r) (fun y hy => ⟨h y hy.1, hy.2⟩) h4⟩
theorem one_past {S : Nat → Prop} {G : Nat → Nat} {a b : Nat} : ∀ {J : List (Nat × Nat)}, Prt S G → S a → S b → a ≠ b → Apart (less S a b) J →
    lessL S J a ∧ lessL S J b ∧ Apart S J ∧ (∀ x, lessL (less S a b) J x → lessL S J x ∧ x ≠ a ∧ x ≠ b ∧ tiesL (tie G a b) J x = tie (tiesL G J) a b x) ∧ rg G a b + rgL (tie G a b) J = rgL G J + rg (tiesL G J) a b
  | [], P, ha, hb, hab, _ => ⟨ha, hb, trivial, fun x hx => ⟨hx.1, hx.2.1, hx.2.2, rfl⟩, by show rg G a b + 0 = 0 + rg G a b; omega⟩
  | q :: r, P, ha, hb, hab, ⟨h1, h2, h3, h4⟩ => by
    have sw : ∀ x, less (less S a b) q.1 q.2 x → less (less S q.1 q.2) a b x := fun x z => ⟨⟨z.1.1, z.2⟩, z.1.2⟩
    have ws : ∀ x, less (less S q.1 q.2) a b x → less (less S a b) q.1 q.2 x := fun x z => ⟨⟨z.1.1, z.2⟩, z.1.2⟩
    have a1 : less S q.1 q.2 a := ⟨ha, fun z => h1.2.1 z.symm, fun z => h2.2.1 z.symm⟩
    have b1 : less S q.1 q.2 b := ⟨hb, fun z => h1.2.2 z.symm, fun z => h2.2.2 z.symm⟩
    have P1 := P.tie h1.1 h2.1 h3
    obtain ⟨i1, i2, i3, i4, i5⟩ := one_past (J := r) P1 a1 b1 hab (apart_mono sw h4)
    have eqs : ∀ x, less (less S a b) q.1 q.2 x → tie (tie G a b) q.1 q.2 x = tie (tie G q.1 q.2) a b x := fun x z =>
      tie_swap P ha hb h1.1 h2.1 z.1.1 hab (fun w => h1.2.1 w.symm) (fun w => h2.2.1 w.symm) (fun w => h1.2.2 w.symm) (fun w => h2.2.2 w.symm) h3 z.1.2.1 z.1.2.2 z.2.1 z.2.2
    refine ⟨i1, i2, ⟨h1.1, h2.1, h3, i3⟩, fun x hx => ?_, ?_⟩
    · obtain ⟨j1, j2, j3, j4⟩ := i4 x (lessL_mono sw hx)
      refine ⟨j1, j2, j3, ?_⟩
      show tiesL (tie (tie G a b) q.1 q.2) r x = _
      rw [tiesL_congr eqs h4 x hx]
      exact j4
    · show rg G a b + (rg (tie G a b) q.1 q.2 + rgL (tie (tie G a b) q.1 q.2) r) = rg G q.1 q.2 + rgL (tie G q.1 q.2) r + rg (tiesL (tie G q.1 q.2) r) a b
      rw [rgL_congr eqs h4]
      have := rg_swap P ha hb h1.1 h2.1 hab (fun w => h1.2.1 w.symm) (fun w => h2.2.1 w.symm) (fun w => h1.2.2 w.symm) (fun w => h2.2.2 w.symm) h3
      omega
theorem rows_swap {S : Nat → Prop} {G : Nat → Nat} {F : List (Nat × Nat)} : ∀ {J : List (Nat × Nat)}, Prt S G → Apart S J → Apart (lessL S J) F →
    Apart S F ∧ Apart (lessL S F) J ∧ (∀ x, lessL (lessL S J) F x → lessL (lessL S F) J x ∧ tiesL (tiesL G J) F x = tiesL (tiesL G F) J x) ∧ rgL G J + rgL (tiesL G J) F = rgL G F + rgL (tiesL G F) J
  | [], P, _, h => ⟨h, trivial, fun x hx => ⟨hx, rfl⟩, by show 0 + rgL G F = rgL G F + 0; omega⟩
  | q :: r, P, ⟨h1, h2, h3, h4⟩, h => by
    obtain ⟨i1, i2, i3, i4⟩ := rows_swap (F := F) (J := r) (P.tie h1 h2 h3) h4 h
    obtain ⟨j1, j2, j3, j4, j5⟩ := one_past (J := F) P h1 h2 h3 i1
    have mn : ∀ x, lessL (less S q.1 q.2) F x → less (lessL S F) q.1 q.2 x := fun x hx => ⟨(j4 x hx).1, (j4 x hx).2.1, (j4 x hx).2.2.1⟩
    refine ⟨j3, ⟨j1, j2, h3, apart_mono mn i2⟩, fun x hx => ?_, ?_⟩
    · obtain ⟨k1, k2⟩ := i3 x hx
      refine ⟨lessL_mono (J := r) mn k1, ?_⟩
      show tiesL (tiesL (tie G q.1 q.2) r) F x = tiesL (tie (tiesL G F) q.1 q.2) r x
      rw [k2]
      exact tiesL_congr (fun y hy => (j4 y hy).2.2.2) i2 x k1
    · show rg G q.1 q.2 + rgL (tie G q.1 q.2) r + rgL (tiesL (tie G q.1 q.2) r) F = rgL G F + (rg (tiesL G F) q.1 q.2 + rgL (tie (tiesL G F) q.1 q.2) r)
      have := rgL_congr (J := r) (fun y hy => (j4 y hy).2.2.2) i2
      omega
theorem anw_same {n : Nat} {A B : Nat → Int} {g h : Nat → Nat} (TA : M.Tw n A g) (TB : M.Tw n B h) (e : ∀ i, i < n → g i = h i) : ∀ i, i < n → M.anw A n i = M.anw B n i := by
  have TB' : M.Tw n B g := ⟨TA.lt, TA.ne, fun i hi => by rw [e i hi]; exact TB.eq i hi, fun i k hi hk z => by rw [e i hi]; exact TB.only i k hi hk z⟩
  have first : ∀ i, i < n → ¬ g i < i → M.anw A n i = M.anw B n i := fun i hi h => by rw [M.anw_new TA hi h, M.anw_new TB' hi h, keys_same TA TB' i (by omega)]
  intro i hi
  by_cases h : g i < i
  · rw [← M.anw_twin TA hi, ← M.anw_twin TB' hi]
    exact first _ (TA.lt i hi) (by rw [TA.inv hi]; omega)
  · exact first i hi h
theorem out_same {m e : Nat} {A B : Nat → Int} {g h o : Nat → Nat} {S : Nat → Prop} {G G' : Nat → Nat} (OA : Out m e A g o S G) (OB : Out m e B h o S G') (hG : ∀ x, S x → G x = G' x) : ∀ i, i < 4 * m + e → M.anw A (4 * m + e) i = M.anw B (4 * m + e) i :=
  anw_same OA.tw OB.tw fun i hi => OA.inj _ _ (OA.tw.lt i hi) (OB.tw.lt i hi) (by rw [OA.map i hi, OB.map i hi, hG _ (OA.mem i hi)])
end K57
set_option Elab.async false
set_option linter.all false
set_option maxHeartbeats 4000000
namespace K57
open M (tie)
theorem tiesL_snoc {G : Nat → Nat} {q : Nat × Nat} : ∀ {J : List (Nat × Nat)}, tiesL G (J ++ [q]) = tie (tiesL G J) q.1 q.2
  | [] => rfl
  | p :: r => tiesL_snoc (G := tie G p.1 p.2) (J := r)
theorem lessL_snoc {S : Nat → Prop} {q : Nat × Nat} : ∀ {J : List (Nat × Nat)}, lessL S (J ++ [q]) = less (lessL S J) q.1 q.2
  | [] => rfl
  | p :: r => lessL_snoc (S := less S p.1 p.2) (J := r)
theorem rgL_snoc {G : Nat → Nat} {q : Nat × Nat} : ∀ {J : List (Nat × Nat)}, rgL G (J ++ [q]) = rgL G J + rg (tiesL G J) q.1 q.2
  | [] => by show rg G q.1 q.2 + 0 = 0 + rg G q.1 q.2; omega
  | p :: r => by
    show rg G p.1 p.2 + rgL (tie G p.1 p.2) (r ++ [q]) = rg G p.1 p.2 + rgL (tie G p.1 p.2) r + rg (tiesL (tie G p.1 p.2) r) q.1 q.2
    rw [rgL_snoc (J := r)]; omega
def jn (o : Nat → Nat) (m e1 k : Nat) : List (Nat × Nat) := (List.range k).map fun j => (o (4 * m + (e1 - 1 - j)), o (4 * m + (e1 + j)))
def oG (m e1 k i : Nat) : Nat := if i < 4 * m + (e1 - k) then i else i + 2 * k
theorem glued_out {m e1 e2 : Nat} {C : Nat → Int} {r : Int} {h o : Nat → Nat} {S : Nat → Prop} {G : Nat → Nat} (O : Out m (e1 + e2) C h o S G) : ∀ k, k ≤ e1 → k ≤ e2 →
    (∃ h', Out m (itS m e1 (e1 + e2, C, r) k).1 (itS m e1 (e1 + e2, C, r) k).2.1 h' (fun i => o (oG m e1 k i)) (lessL S (jn o m e1 k)) (tiesL G (jn o m e1 k))) ∧ (itS m e1 (e1 + e2, C, r) k).2.2 = r + rgL G (jn o m e1 k)
  | 0, _, _ => ⟨⟨h, O.congr (fun i hi => by unfold oG; split <;> rfl) (fun _ z => z) fun _ _ => rfl⟩, by show r = r + 0; omega⟩
  | k + 1, h1, h2 => by
    obtain ⟨⟨h', O'⟩, R⟩ := glued_out (r := r) O k (by omega) (by omega)
    have hl := it_len (m := m) (B := C) (r := r) k (by omega : k ≤ e1) (by omega : k ≤ e2)
    have hl2 := it_len (m := m) (B := C) (r := r) (k + 1) (by omega : k + 1 ≤ e1) (by omega : k + 1 ≤ e2)
    obtain ⟨⟨h2', O2⟩, R2⟩ := O'.shut (p := e1 - 1 - k) (by omega) (by omega) (itS m e1 (e1 + e2, C, r) k).2.2
    have haft : aft (itS m e1 (e1 + e2, C, r) k).1 (e1 - 1 - k) = e1 - 1 - k + 1 := by unfold aft; exact Nat.mod_eq_of_lt (by omega)
    have p1 : oG m e1 k (4 * m + (e1 - 1 - k)) = 4 * m + (e1 - 1 - k) := if_pos (by omega)
    have p2 : oG m e1 k (4 * m + aft (itS m e1 (e1 + e2, C, r) k).1 (e1 - 1 - k)) = 4 * m + (e1 + k) := by rw [haft]; unfold oG; rw [if_neg (by omega)]; omega
    have hj : jn o m e1 (k + 1) = jn o m e1 k ++ [(o (4 * m + (e1 - 1 - k)), o (4 * m + (e1 + k)))] := by unfold jn; rw [List.range_succ, List.map_append]; rfl
    try dsimp only at O2 R2
    rw [p1, p2] at O2 R2
    rw [hj, tiesL_snoc, lessL_snoc, rgL_snoc]
    refine ⟨⟨h2', O2.congr (fun i hi => ?_) (fun _ z => z) fun _ _ => rfl⟩, ?_⟩
    · have hi : i < 4 * m + (itS m e1 (e1 + e2, C, r) (k + 1)).1 := hi
      show o (oG m e1 k (M.old m (itS m e1 (e1 + e2, C, r) k).1 (e1 - 1 - k) (aft (itS m e1 (e1 + e2, C, r) k).1 (e1 - 1 - k)) i)) = o (oG m e1 (k + 1) i)
      rw [haft, old_adj (by omega) (by omega)]
      unfold oG
      by_cases c : i < 4 * m + (e1 - 1 - k)
      · rw [if_pos c, if_pos (by omega), if_pos (by omega)]
      · rw [if_neg c, if_neg (by omega), if_neg (by omega)]
        congr 1; omega
    · show shR m (itS m e1 (e1 + e2, C, r) k).1 (e1 - 1 - k) (itS m e1 (e1 + e2, C, r) k).2.1 (itS m e1 (e1 + e2, C, r) k).2.2 = _
      rw [R2, R]
      show r + rgL G (jn o m e1 k) + rg (tiesL G (jn o m e1 k)) (o (4 * m + (e1 - 1 - k))) (o (4 * m + (e1 + k))) = r + (rgL G (jn o m e1 k) + rg (tiesL G (jn o m e1 k)) (o (4 * m + (e1 - 1 - k))) (o (4 * m + (e1 + k))))
      omega
end K57
set_option Elab.async false
set_option linter.all false
set_option maxRecDepth 100000
set_option maxHeartbeats 4000000
namespace K57
open M (tie)
def oo (m1 e1 m2 : Nat) (o1 o2 : Nat → Nat) (i : Nat) : Nat := if sid m1 e1 m2 i = true then o1 (loc m1 e1 m2 i) else o2 (loc m1 e1 m2 i)
theorem oo_1 {m1 e1 m2 x : Nat} {o1 o2 : Nat → Nat} (hx : x < 4 * m1 + e1) : oo m1 e1 m2 o1 o2 (emb m1 e1 m2 true x) = o1 x := by
  obtain ⟨_, h1, h2⟩ := emb1 (e2 := 0) (m2 := m2) hx
  unfold oo
  rw [if_pos h1, h2]
theorem oo_2 {m1 e1 m2 e2 x : Nat} {o1 o2 : Nat → Nat} (hx : x < 4 * m2 + e2) : oo m1 e1 m2 o1 o2 (emb m1 e1 m2 false x) = o2 x := by
  obtain ⟨_, h1, h2⟩ := emb2 (m1 := m1) (e1 := e1) (e2 := e2) hx
  unfold oo
  rw [if_neg (by rw [h1]; decide), h2]
theorem two_out {m1 e1 m2 e2 : Nat} {A1 A2 : Nat → Int} {h1 h2 o1 o2 : Nat → Nat} {S1 S2 : Nat → Prop} {G : Nat → Nat} (O1 : Out m1 e1 A1 h1 o1 S1 G) (O2 : Out m2 e2 A2 h2 o2 S2 G) (hA : ∀ i, 0 ≤ A2 i) (dis : ∀ x, S1 x → S2 x → False) :
    Out (m1 + m2) (e1 + e2) (twoA m1 e1 m2 A1 A2) (bG m1 e1 m2 h1 h2) (oo m1 e1 m2 o1 o2) (fun x => S1 x ∨ S2 x) G := by
  refine ⟨two_tw O1.tw O2.tw hA, fun i hi => ?_, fun i j hi hj z => ?_, fun i hi => ?_⟩
  · rcases of_two hi with ⟨x, hx, rfl⟩ | ⟨x, hx, rfl⟩
    · rw [oo_1 hx]; exact .inl (O1.mem x hx)
    · rw [oo_2 hx]; exact .inr (O2.mem x hx)
  · rcases of_two hi with ⟨x, hx, rfl⟩ | ⟨x, hx, rfl⟩ <;> rcases of_two hj with ⟨y, hy, rfl⟩ | ⟨y, hy, rfl⟩
    · rw [oo_1 hx, oo_1 hy] at z
      rw [O1.inj x y hx hy z]
    · rw [oo_1 hx, oo_2 hy] at z
      exact (dis _ (O1.mem x hx) (z ▸ O2.mem y hy)).elim
    · rw [oo_2 hx, oo_1 hy] at z
      exact (dis _ (O1.mem y hy) (z ▸ O2.mem x hx)).elim
    · rw [oo_2 hx, oo_2 hy] at z
      rw [O2.inj x y hx hy z]
  · rcases of_two hi with ⟨x, hx, rfl⟩ | ⟨x, hx, rfl⟩
    · rw [bG1 hx, oo_1 (O1.tw.lt x hx), oo_1 hx, O1.map x hx]
    · rw [bG2 (e2 := e2) hx, oo_2 (O2.tw.lt x hx), oo_2 hx, O2.map x hx]
def gl (m1 e1 m2 c : Nat) (o1 o2 : Nat → Nat) (i : Nat) : Nat :=
  if i < 4 * m1 then o1 i else if i < 4 * (m1 + m2) then o2 (i - 4 * m1) else if i < 4 * (m1 + m2) + (e1 - c) then o1 (i - 4 * m2) else o2 (i - 4 * m1 - (e1 - c) + c)
def gJ (m1 e1 m2 c : Nat) (o1 o2 : Nat → Nat) : List (Nat × Nat) := (List.range c).map fun j => (o1 (4 * m1 + (e1 - 1 - j)), o2 (4 * m2 + j))
theorem oo_gl {m1 e1 m2 e2 c i : Nat} {o1 o2 : Nat → Nat} (h1 : c ≤ e1) (h2 : c ≤ e2) (hi : i + 2 * c < 4 * (m1 + m2) + (e1 + e2)) : oo m1 e1 m2 o1 o2 (oG (m1 + m2) e1 c i) = gl m1 e1 m2 c o1 o2 i := by
  unfold oG gl
  by_cases c1 : i < 4 * m1
  · rw [if_pos (by omega), if_pos c1]
    rcases emb_t m1 e1 m2 i with ⟨_, q⟩ | ⟨q, _⟩
    · have := oo_1 (m2 := m2) (o1 := o1) (o2 := o2) (show i < 4 * m1 + e1 by omega); rwa [q] at this
    · omega
  · rw [if_neg c1]
    by_cases c2 : i < 4 * (m1 + m2)
    · rw [if_pos (by omega), if_pos c2]
      rcases emb_f m1 e1 m2 (i - 4 * m1) with ⟨_, q⟩ | ⟨q, _⟩
      · have := oo_2 (m1 := m1) (e1 := e1) (o1 := o1) (o2 := o2) (show i - 4 * m1 < 4 * m2 + e2 by omega); rwa [q, show i - 4 * m1 + 4 * m1 = i by omega] at this
      · omega
    · rw [if_neg c2]
      by_cases c3 : i < 4 * (m1 + m2) + (e1 - c)
      · rw [if_pos c3, if_pos c3]
        rcases emb_t m1 e1 m2 (i - 4 * m2) with ⟨q, _⟩ | ⟨_, q⟩
        · omega
        · have := oo_1 (m2 := m2) (o1 := o1) (o2 := o2) (show i - 4 * m2 < 4 * m1 + e1 by omega); rwa [q, show i - 4 * m2 + 4 * m2 = i by omega] at this
      · rw [if_neg c3, if_neg c3]
        rcases emb_f m1 e1 m2 (i - 4 * m1 - (e1 - c) + c) with ⟨q, _⟩ | ⟨_, q⟩
        · omega
        · have := oo_2 (m1 := m1) (e1 := e1) (o1 := o1) (o2 := o2) (show i - 4 * m1 - (e1 - c) + c < 4 * m2 + e2 by omega); rwa [q, show i - 4 * m1 - (e1 - c) + c + 4 * m1 + e1 = i + 2 * c by omega] at this
theorem jn_gJ {m1 e1 m2 e2 c : Nat} {o1 o2 : Nat → Nat} (h1 : c ≤ e1) (h2 : c ≤ e2) : jn (oo m1 e1 m2 o1 o2) (m1 + m2) e1 c = gJ m1 e1 m2 c o1 o2 := by
  unfold jn gJ
  refine List.map_congr_left fun j hj => ?_
  have hj := List.mem_range.mp hj
  refine Prod.ext ?_ ?_
  · show oo m1 e1 m2 o1 o2 (4 * (m1 + m2) + (e1 - 1 - j)) = o1 (4 * m1 + (e1 - 1 - j))
    rcases emb_t m1 e1 m2 (4 * m1 + (e1 - 1 - j)) with ⟨q, _⟩ | ⟨_, q⟩
    · omega
    · have := oo_1 (m2 := m2) (o1 := o1) (o2 := o2) (show 4 * m1 + (e1 - 1 - j) < 4 * m1 + e1 by omega); rwa [q, show 4 * m1 + (e1 - 1 - j) + 4 * m2 = 4 * (m1 + m2) + (e1 - 1 - j) by omega] at this
  · show oo m1 e1 m2 o1 o2 (4 * (m1 + m2) + (e1 + j)) = o2 (4 * m2 + j)
    rcases emb_f m1 e1 m2 (4 * m2 + j) with ⟨q, _⟩ | ⟨_, q⟩
    · omega
    · have := oo_2 (m1 := m1) (e1 := e1) (o1 := o1) (o2 := o2) (show 4 * m2 + j < 4 * m2 + e2 by omega); rwa [q, show 4 * m2 + j + 4 * m1 + e1 = 4 * (m1 + m2) + (e1 + j) by omega] at this
abbrev gE (m1 e1 : Nat) (A1 : Nat → Int) (r1 : Int) (m2 e2 : Nat) (A2 : Nat → Int) (r2 : Int) (c : Nat) : Nat × (Nat → Int) × Int := itS (m1 + m2) e1 (e1 + e2, twoA m1 e1 m2 A1 A2, r1 + r2) c
theorem glue {m1 e1 m2 e2 c : Nat} {A1 A2 : Nat → Int} {r1 r2 : Int} {h1 h2 o1 o2 : Nat → Nat} {S1 S2 : Nat → Prop} {G : Nat → Nat} (O1 : Out m1 e1 A1 h1 o1 S1 G) (O2 : Out m2 e2 A2 h2 o2 S2 G) (hA : ∀ i, 0 ≤ A2 i) (dis : ∀ x, S1 x → S2 x → False) (k1 : c ≤ e1) (k2 : c ≤ e2) :
    ∃ h', (gE m1 e1 A1 r1 m2 e2 A2 r2 c).1 + 2 * c = e1 + e2 ∧ Out (m1 + m2) (gE m1 e1 A1 r1 m2 e2 A2 r2 c).1 (gE m1 e1 A1 r1 m2 e2 A2 r2 c).2.1 h' (gl m1 e1 m2 c o1 o2) (lessL (fun x => S1 x ∨ S2 x) (gJ m1 e1 m2 c o1 o2)) (tiesL G (gJ m1 e1 m2 c o1 o2)) ∧ (gE m1 e1 A1 r1 m2 e2 A2 r2 c).2.2 = r1 + r2 + rgL G (gJ m1 e1 m2 c o1 o2) := by
  obtain ⟨⟨h', O⟩, R⟩ := glued_out (r := r1 + r2) (two_out O1 O2 hA dis) c k1 k2
  have hl := it_len (m := m1 + m2) (B := twoA m1 e1 m2 A1 A2) (r := r1 + r2) c k1 k2
  rw [jn_gJ k1 k2] at O R
  exact ⟨h', hl, O.congr (fun i hi => oo_gl k1 k2 (by omega)) (fun _ z => z) fun _ _ => rfl, R⟩
theorem lessL_iff {S : Nat → Prop} : ∀ {J : List (Nat × Nat)} {x : Nat}, lessL S J x ↔ S x ∧ ∀ q ∈ J, x ≠ q.1 ∧ x ≠ q.2
  | [], x => ⟨fun h => ⟨h, fun _ m => nomatch m⟩, fun h => h.1⟩
  | p :: r, x => by
    refine (lessL_iff (S := less S p.1 p.2) (J := r)).trans ⟨fun h => ⟨h.1.1, fun q hq => ?_⟩, fun h => ⟨⟨h.1, h.2 p List.mem_cons_self⟩, fun q hq => h.2 q (List.mem_cons_of_mem _ hq)⟩⟩
    rcases List.mem_cons.mp hq with rfl | hq
    · exact h.1.2
    · exact h.2 q hq
theorem apart_of {S : Nat → Prop} : ∀ {J : List (Nat × Nat)}, (∀ q ∈ J, S q.1 ∧ S q.2 ∧ q.1 ≠ q.2) → J.Pairwise (fun p q => q.1 ≠ p.1 ∧ q.1 ≠ p.2 ∧ q.2 ≠ p.1 ∧ q.2 ≠ p.2) → Apart S J
  | [], _, _ => trivial
  | p :: r, h, hp => by
    obtain ⟨h1, h2, h3⟩ := h p List.mem_cons_self
    obtain ⟨p1, p2⟩ := List.pairwise_cons.mp hp
    refine ⟨h1, h2, h3, apart_of (fun q hq => ?_) p2⟩
    obtain ⟨a, b, c⟩ := h q (List.mem_cons_of_mem _ hq)
    obtain ⟨d1, d2, d3, d4⟩ := p1 q hq
    exact ⟨⟨a, d1, d2⟩, ⟨b, d3, d4⟩, c⟩
theorem tiesL_off {U : Nat → Prop} : ∀ {J : List (Nat × Nat)} {G : Nat → Nat}, (∀ y, U y → U (G y)) → (∀ q ∈ J, U q.1 ∧ U q.2) → ∀ x, ¬ U x → tiesL G J x = G x
  | [], _, _, _, _, _ => rfl
  | p :: r, G, hc, hJ, x, hx => by
    obtain ⟨h1, h2⟩ := hJ p List.mem_cons_self
    have step : ∀ y, ¬ U y → tie G p.1 p.2 y = G y := fun y hy => by
      unfold M.tie
      rw [if_neg (fun z => hy (by rw [z]; exact hc _ h1)), if_neg (fun z => hy (by rw [z]; exact hc _ h2))]
    show tiesL (tie G p.1 p.2) r x = G x
    rw [tiesL_off (fun y hy => ?_) (fun q hq => hJ q (List.mem_cons_of_mem _ hq)) x hx, step x hx]
    unfold M.tie
    split
    · exact hc _ h2
    · split
      · exact hc _ h1
      · exact hc _ hy
end K57
set_option Elab.async false
set_option linter.all false
set_option maxRecDepth 100000
set_option maxHeartbeats 4000000
namespace K57
open M (tie)
open PV
def c1 (x : Nat) : Nat := 3 * x
def c2 (x : Nat) : Nat := 3 * x + 1
def c3 (x : Nat) : Nat := 3 * x + 2
def G3 (g1 g2 g3 : Nat → Nat) (y : Nat) : Nat := if y % 3 = 0 then c1 (g1 (y / 3)) else if y % 3 = 1 then c2 (g2 (y / 3)) else c3 (g3 (y / 3))
theorem G3_1 {g1 g2 g3 : Nat → Nat} (x : Nat) : G3 g1 g2 g3 (c1 x) = c1 (g1 x) := by
  unfold G3
  rw [if_pos (by unfold c1; omega), show c1 x / 3 = x by unfold c1; omega]
theorem G3_2 {g1 g2 g3 : Nat → Nat} (x : Nat) : G3 g1 g2 g3 (c2 x) = c2 (g2 x) := by
  unfold G3
  rw [if_neg (by unfold c2; omega), if_pos (by unfold c2; omega), show c2 x / 3 = x by unfold c2; omega]
theorem G3_3 {g1 g2 g3 : Nat → Nat} (x : Nat) : G3 g1 g2 g3 (c3 x) = c3 (g3 x) := by
  unfold G3
  rw [if_neg (by unfold c3; omega), if_neg (by unfold c3; omega), show c3 x / 3 = x by unfold c3; omega]
def S1 (n x : Nat) : Prop := ∃ y, y < n ∧ x = c1 y
def S2 (n x : Nat) : Prop := ∃ y, y < n ∧ x = c2 y
def S3 (n x : Nat) : Prop := ∃ y, y < n ∧ x = c3 y
section
variable {m1 e1 m2 e2 m3 e3 : Nat} {A1 A2 A3 : Nat → Int} {g1 g2 g3 : Nat → Nat}
theorem out1 (T : M.Tw (4 * m1 + e1) A1 g1) : Out m1 e1 A1 g1 c1 (S1 (4 * m1 + e1)) (G3 g1 g2 g3) := ⟨T, fun i hi => ⟨i, hi, rfl⟩, fun i j _ _ z => by unfold c1 at z; omega, fun i _ => (G3_1 i).symm⟩
theorem out2 (T : M.Tw (4 * m2 + e2) A2 g2) : Out m2 e2 A2 g2 c2 (S2 (4 * m2 + e2)) (G3 g1 g2 g3) := ⟨T, fun i hi => ⟨i, hi, rfl⟩, fun i j _ _ z => by unfold c2 at z; omega, fun i _ => (G3_2 i).symm⟩
theorem out3 (T : M.Tw (4 * m3 + e3) A3 g3) : Out m3 e3 A3 g3 c3 (S3 (4 * m3 + e3)) (G3 g1 g2 g3) := ⟨T, fun i hi => ⟨i, hi, rfl⟩, fun i j _ _ z => by unfold c3 at z; omega, fun i _ => (G3_3 i).symm⟩
theorem d12 {n k x : Nat} (h : S1 n x) (h' : S2 k x) : False := by obtain ⟨a, _, e⟩ := h; obtain ⟨b, _, e'⟩ := h'; unfold c1 at e; unfold c2 at e'; omega
theorem d13 {n k x : Nat} (h : S1 n x) (h' : S3 k x) : False := by obtain ⟨a, _, e⟩ := h; obtain ⟨b, _, e'⟩ := h'; unfold c1 at e; unfold c3 at e'; omega
theorem d23 {n k x : Nat} (h : S2 n x) (h' : S3 k x) : False := by obtain ⟨a, _, e⟩ := h; obtain ⟨b, _, e'⟩ := h'; unfold c2 at e; unfold c3 at e'; omega
theorem anw_nn (A : Nat → Int) (n i : Nat) : 0 ≤ M.anw A n i := by unfold M.anw; omega
theorem J12_in {f : Nat} (h1 : f ≤ e1) (h2 : f ≤ e2) : ∀ q ∈ gJ m1 e1 m2 f c1 c2, S1 (4 * m1 + e1) q.1 ∧ S2 (4 * m2 + e2) q.2 := fun q hq => by
  obtain ⟨j, hj, rfl⟩ := List.mem_map.mp hq
  have hj := List.mem_range.mp hj
  exact ⟨⟨_, by omega, rfl⟩, ⟨_, by omega, rfl⟩⟩
theorem J23_in {l : Nat} (h1 : l ≤ e2) (h2 : l ≤ e3) : ∀ q ∈ gJ m2 e2 m3 l c2 c3, S2 (4 * m2 + e2) q.1 ∧ S3 (4 * m3 + e3) q.2 := fun q hq => by
  obtain ⟨j, hj, rfl⟩ := List.mem_map.mp hq
  have hj := List.mem_range.mp hj
  exact ⟨⟨_, by omega, rfl⟩, ⟨_, by omega, rfl⟩⟩
theorem J_apart {S : Nat → Prop} {f : Nat} {o1 o2 : Nat → Nat} (hf : f ≤ e1) (i1 : ∀ x y, o1 x = o1 y → x = y) (i2 : ∀ x y, o2 x = o2 y → x = y) (i12 : ∀ x y, o1 x ≠ o2 y) (hS : ∀ q ∈ gJ m1 e1 m2 f o1 o2, S q.1 ∧ S q.2) : Apart S (gJ m1 e1 m2 f o1 o2) := by
  refine apart_of (fun q hq => ?_) ?_
  · have := hS q hq
    obtain ⟨j, hj, rfl⟩ := List.mem_map.mp hq
    exact ⟨this.1, this.2, i12 _ _⟩
  · unfold gJ
    rw [List.pairwise_map]
    refine List.Pairwise.imp_of_mem (R := fun a b => a < b) (fun {a b} ha hb hab => ?_) List.pairwise_lt_range
    have ha := List.mem_range.mp ha
    have hb := List.mem_range.mp hb
    exact ⟨fun z => by have := i1 _ _ z; omega, i12 _ _, fun z => i12 _ _ z.symm, fun z => by have := i2 _ _ z; omega⟩
theorem c1i (x y : Nat) (h : c1 x = c1 y) : x = y := by unfold c1 at h; omega
theorem c2i (x y : Nat) (h : c2 x = c2 y) : x = y := by unfold c2 at h; omega
theorem c3i (x y : Nat) (h : c3 x = c3 y) : x = y := by unfold c3 at h; omega
theorem n12 (x y : Nat) : c1 x ≠ c2 y := by unfold c1 c2; omega
theorem n23 (x y : Nat) : c2 x ≠ c3 y := by unfold c2 c3; omega
theorem either {r1 r2 r3 : Int} {f l : Nat} (T1 : M.Tw (4 * m1 + e1) A1 g1) (T2 : M.Tw (4 * m2 + e2) A2 g2) (T3 : M.Tw (4 * m3 + e3) A3 g3) (p2 : ∀ i, 0 ≤ A2 i) (p3 : ∀ i, 0 ≤ A3 i) (h1 : f ≤ e1) (h2 : f + l ≤ e2) (h3 : l ≤ e3)
    {x12 x23 xL xR : Nat × (Nat → Int) × Int} (e12 : x12 = gE m1 e1 A1 r1 m2 e2 A2 r2 f) (e23 : x23 = gE m2 e2 A2 r2 m3 e3 A3 r3 l)
    (eL : xL = gE (m1 + m2) x12.1 (M.anw x12.2.1 (4 * (m1 + m2) + x12.1)) x12.2.2 m3 e3 A3 r3 l) (eR : xR = gE m1 e1 A1 r1 (m2 + m3) x23.1 (M.anw x23.2.1 (4 * (m2 + m3) + x23.1)) x23.2.2 f) :
    webD (m1 + m2 + m3) xL.1 (M.anw xL.2.1 (4 * (m1 + m2 + m3) + xL.1)) xL.2.2 = webD (m1 + (m2 + m3)) xR.1 (M.anw xR.2.1 (4 * (m1 + (m2 + m3)) + xR.1)) xR.2.2 := by
  have cl : ∀ y, (S1 (4 * m1 + e1) y ∨ S2 (4 * m2 + e2) y) ∨ S3 (4 * m3 + e3) y → ((S1 (4 * m1 + e1) (G3 g1 g2 g3 y) ∨ S2 (4 * m2 + e2) (G3 g1 g2 g3 y)) ∨ S3 (4 * m3 + e3) (G3 g1 g2 g3 y)) ∧ G3 g1 g2 g3 y ≠ y ∧ G3 g1 g2 g3 (G3 g1 g2 g3 y) = y := by
    rintro y ((⟨a, ha, rfl⟩ | ⟨a, ha, rfl⟩) | ⟨a, ha, rfl⟩)
    · rw [G3_1, G3_1, T1.inv ha]
      exact ⟨.inl (.inl ⟨_, T1.lt a ha, rfl⟩), fun z => T1.ne a ha (c1i _ _ z), rfl⟩
    · rw [G3_2, G3_2, T2.inv ha]
      exact ⟨.inl (.inr ⟨_, T2.lt a ha, rfl⟩), fun z => T2.ne a ha (c2i _ _ z), rfl⟩
    · rw [G3_3, G3_3, T3.inv ha]
      exact ⟨.inr ⟨_, T3.lt a ha, rfl⟩, fun z => T3.ne a ha (c3i _ _ z), rfl⟩
  have PU : Prt (fun y => (S1 (4 * m1 + e1) y ∨ S2 (4 * m2 + e2) y) ∨ S3 (4 * m3 + e3) y) (G3 g1 g2 g3) := ⟨fun y h => (cl y h).1, fun y h => (cl y h).2.1, fun y h => (cl y h).2.2⟩
  have cl12 : ∀ y, S1 (4 * m1 + e1) y ∨ S2 (4 * m2 + e2) y → S1 (4 * m1 + e1) (G3 g1 g2 g3 y) ∨ S2 (4 * m2 + e2) (G3 g1 g2 g3 y) := by
    rintro y (⟨a, ha, rfl⟩ | ⟨a, ha, rfl⟩)
    · rw [G3_1]; exact .inl ⟨_, T1.lt a ha, rfl⟩
    · rw [G3_2]; exact .inr ⟨_, T2.lt a ha, rfl⟩
  have cl23 : ∀ y, S2 (4 * m2 + e2) y ∨ S3 (4 * m3 + e3) y → S2 (4 * m2 + e2) (G3 g1 g2 g3 y) ∨ S3 (4 * m3 + e3) (G3 g1 g2 g3 y) := by
    rintro y (⟨a, ha, rfl⟩ | ⟨a, ha, rfl⟩)
    · rw [G3_2]; exact .inl ⟨_, T2.lt a ha, rfl⟩
    · rw [G3_3]; exact .inr ⟨_, T3.lt a ha, rfl⟩
  have in12 := J12_in (m1 := m1) (m2 := m2) (e1 := e1) (e2 := e2) (f := f) h1 (by omega)
  have in23 := J23_in (m2 := m2) (m3 := m3) (e2 := e2) (e3 := e3) (l := l) (by omega) h3
  -- the first way
  obtain ⟨ha, la, Oa, Ra⟩ := glue (c := f) (r1 := r1) (r2 := r2) (out1 (g2 := g2) (g3 := g3) T1) (out2 (g1 := g1) (g3 := g3) T2) p2 (fun _ => d12) h1 (by omega)
  rw [← e12] at la Oa Ra
  have O3 : Out m3 e3 A3 g3 c3 (S3 (4 * m3 + e3)) (tiesL (G3 g1 g2 g3) (gJ m1 e1 m2 f c1 c2)) := (out3 (g1 := g1) (g2 := g2) T3).congr (fun _ _ => rfl) (fun _ z => z) fun x hx =>
    (tiesL_off cl12 (fun q hq => ⟨.inl (in12 q hq).1, .inr (in12 q hq).2⟩) x (fun z => z.elim (fun z => d13 z hx) fun z => d23 z hx)).symm
  obtain ⟨hL, lL, OL, RL⟩ := glue (c := l) (r1 := x12.2.2) (r2 := r3) Oa.named O3 p3 (fun x hx h3 => (lessL_iff.mp hx).1.elim (fun z => d13 z h3) fun z => d23 z h3) (by omega) h3
  rw [← eL] at lL OL RL
  have JL : gJ (m1 + m2) x12.1 m3 l (gl m1 e1 m2 f c1 c2) c3 = gJ m2 e2 m3 l c2 c3 := List.map_congr_left fun j hj => by
    have hj := List.mem_range.mp hj
    refine Prod.ext ?_ rfl
    show gl m1 e1 m2 f c1 c2 (4 * (m1 + m2) + (x12.1 - 1 - j)) = c2 (4 * m2 + (e2 - 1 - j))
    unfold gl
    rw [if_neg (by omega), if_neg (by omega), if_neg (by omega)]
    congr 1; omega
  rw [JL] at OL RL
  -- the other way
  obtain ⟨hb, lb, Ob, Rb⟩ := glue (c := l) (r1 := r2) (r2 := r3) (out2 (g1 := g1) (g3 := g3) T2) (out3 (g1 := g1) (g2 := g2) T3) p3 (fun _ => d23) (by omega) h3
  rw [← e23] at lb Ob Rb
  have O1 : Out m1 e1 A1 g1 c1 (S1 (4 * m1 + e1)) (tiesL (G3 g1 g2 g3) (gJ m2 e2 m3 l c2 c3)) := (out1 (g2 := g2) (g3 := g3) T1).congr (fun _ _ => rfl) (fun _ z => z) fun x hx =>
    (tiesL_off cl23 (fun q hq => ⟨.inl (in23 q hq).1, .inr (in23 q hq).2⟩) x (fun z => z.elim (fun z => d12 hx z) fun z => d13 hx z)).symm
  obtain ⟨hR, lR, OR, RR⟩ := glue (c := f) (r1 := r1) (r2 := x23.2.2) O1 Ob.named (anw_nn _ _) (fun x h1 hx => (lessL_iff.mp hx).1.elim (fun z => d12 h1 z) fun z => d13 h1 z) h1 (by omega)
  rw [← eR] at lR OR RR
  have JR : gJ m1 e1 (m2 + m3) f c1 (gl m2 e2 m3 l c2 c3) = gJ m1 e1 m2 f c1 c2 := List.map_congr_left fun j hj => by
    have hj := List.mem_range.mp hj
    refine Prod.ext rfl ?_
    show gl m2 e2 m3 l c2 c3 (4 * (m2 + m3) + j) = c2 (4 * m2 + j)
    unfold gl
    rw [if_neg (by omega), if_neg (by omega), if_pos (by omega)]
    congr 1; omega
  rw [JR] at OR RR
  -- both
  have ap12 : Apart (fun y => (S1 (4 * m1 + e1) y ∨ S2 (4 * m2 + e2) y) ∨ S3 (4 * m3 + e3) y) (gJ m1 e1 m2 f c1 c2) := J_apart h1 c1i c2i n12 fun q hq => ⟨.inl (.inl (in12 q hq).1), .inl (.inr (in12 q hq).2)⟩
  have ap23 : Apart (lessL (fun y => (S1 (4 * m1 + e1) y ∨ S2 (4 * m2 + e2) y) ∨ S3 (4 * m3 + e3) y) (gJ m1 e1 m2 f c1 c2)) (gJ m2 e2 m3 l c2 c3) := J_apart (by omega) c2i c3i n23 fun q hq => by
    have hq' := in23 q hq
    obtain ⟨j, hj, rfl⟩ := List.mem_map.mp hq
    have hj := List.mem_range.mp hj
    refine ⟨lessL_iff.mpr ⟨.inl (.inr hq'.1), fun p hp => ?_⟩, lessL_iff.mpr ⟨.inr hq'.2, fun p hp => ?_⟩⟩
    · obtain ⟨k, hk, rfl⟩ := List.mem_map.mp hp
      have hk := List.mem_range.mp hk
      exact ⟨fun z => n12 _ _ z.symm, fun z => by have := c2i _ _ z; omega⟩
    · have := in12 p hp
      exact ⟨fun z => d13 this.1 (z ▸ hq'.2), fun z => d23 this.2 (z ▸ hq'.2)⟩
  obtain ⟨-, -, sw, rsw⟩ := rows_swap PU ap12 ap23
  have mm : m1 + m2 + m3 = m1 + (m2 + m3) := by omega
  have ee : xL.1 = xR.1 := by omega
  have rr : xL.2.2 = xR.2.2 := by omega
  have oo : ∀ i, i < 4 * (m1 + m2 + m3) + xL.1 → gl m1 e1 (m2 + m3) f c1 (gl m2 e2 m3 l c2 c3) i = gl (m1 + m2) x12.1 m3 l (gl m1 e1 m2 f c1 c2) c3 i := fun i hi => by
    unfold gl
    by_cases k1 : i < 4 * m1
    · rw [if_pos k1, if_pos (by omega), if_pos k1]
    rw [if_neg k1]
    by_cases k2 : i < 4 * (m1 + m2)
    · rw [if_pos (by omega), if_pos (by omega), if_pos k2, if_neg k1, if_pos k2]
    by_cases k3 : i < 4 * (m1 + m2 + m3)
    · rw [if_pos (by omega), if_neg (by omega), if_pos (by omega), if_neg k2, if_pos k3]
      congr 1; omega
    by_cases k4 : i < 4 * (m1 + m2 + m3) + (e1 - f)
    · rw [if_neg (by omega), if_pos (by omega), if_neg k2, if_neg k3, if_pos (by omega), if_neg (by omega), if_neg (by omega), if_pos (by omega)]
      congr 1; omega
    by_cases k5 : i < 4 * (m1 + m2 + m3) + (x12.1 - l)
    · rw [if_neg (by omega), if_neg (by omega), if_neg (by omega), if_neg (by omega), if_pos (by omega), if_neg k2, if_neg k3, if_pos k5, if_neg (by omega), if_neg (by omega), if_neg (by omega)]
      congr 1; omega
    · rw [if_neg (by omega), if_neg (by omega), if_neg (by omega), if_neg (by omega), if_neg (by omega), if_neg k2, if_neg k3, if_neg k5]
      congr 1; omega
  have OR' := OR
  rw [← mm, ← ee] at OR'
  have OR'' := OR'.congr oo (S' := lessL (fun x => lessL (fun x => S1 (4 * m1 + e1) x ∨ S2 (4 * m2 + e2) x) (gJ m1 e1 m2 f c1 c2) x ∨ S3 (4 * m3 + e3) x) (gJ m2 e2 m3 l c2 c3)) (G' := tiesL (tiesL (G3 g1 g2 g3) (gJ m2 e2 m3 l c2 c3)) (gJ m1 e1 m2 f c1 c2)) (fun x hx => ?_) fun _ _ => rfl
  · rw [← mm, ← ee, ← rr]
    refine webD_congr fun i hi => out_same OL OR'' (fun x hx => ?_) i hi
    refine (sw x ?_).2
    obtain ⟨q1, q2⟩ := lessL_iff.mp hx
    refine lessL_iff.mpr ⟨lessL_iff.mpr ⟨?_, fun p hp => ?_⟩, q2⟩
    · rcases q1 with q1 | q1
      · exact .inl (lessL_iff.mp q1).1
      · exact .inr q1
    · rcases q1 with q1 | q1
      · exact (lessL_iff.mp q1).2 p hp
      · have := in12 p hp
        exact ⟨fun z => d13 this.1 (z ▸ q1), fun z => d23 this.2 (z ▸ q1)⟩
  · obtain ⟨q1, q2⟩ := lessL_iff.mp hx
    refine lessL_iff.mpr ⟨?_, fun p hp => ?_⟩
    · rcases q1 with q1 | q1
      · exact .inl (lessL_iff.mpr ⟨.inl q1, q2⟩)
      · rcases (lessL_iff.mp q1).1 with q3 | q3
        · exact .inl (lessL_iff.mpr ⟨.inr q3, q2⟩)
        · exact .inr q3
    · rcases q1 with q1 | q1
      · have := in23 p hp
        exact ⟨fun z => d12 q1 (z ▸ this.1), fun z => d13 q1 (z ▸ this.2)⟩
      · exact (lessL_iff.mp q1).2 p hp
end
end K57
set_option Elab.async false
set_option linter.all false
set_option maxRecDepth 100000
set_option maxHeartbeats 4000000
namespace K57
open PySem PySem.Spec L2 PV
open PyProof.Rows (envOfC)
open M (tie)
def g_shut : GA := fun ds k => ∃ (m e : Nat) (A : Nat → Int) (r : Int) (p : Nat), ds = [webD m e A r, .int p] ∧ p < e ∧ 2 ≤ e ∧ m ≤ 20 ∧ e ≤ 20 ∧ k (webD m (M.rest e p (aft e p)).length (M.anw (shA m e p A) (4 * m + (M.rest e p (aft e p)).length)) (shR m e p A r))
abbrev s_shut : Stmt := top 9
theorem sc_shut : FnScope ["web", "place"] ["web", "place"] (defScope s_shut) := ⟨rfl, rfl, rfl, by decide +kernel, rfl, by decide +kernel, by decide +kernel⟩
def t_shut : Tg := ⟨fun i => false, []⟩
def w_shut : WS := (wRet (wCall g_named_anew (wCons (wCall g_shut_as_named (wCons (wVar 0) (wCons (wVar 1) wNil))) wNil)))
theorem b_shut {P : Program} {w : World} {K : PySem.W.Frag} {mg : Str → Option Value} {base : Heap} {f : Addr} (B : Bn mg) (C_named_anew : Cal P w K mg base "named_anew" 2 ["web"] (spR K g_named_anew)) (C_shut_as_named : Cal P w K mg base "shut_as_named" 2 ["web", "place"] (spR K g_shut_as_named)) : ∀ (cdv : Value) (A : Around) (outer : List PySem.Env) (s : Shared) (H : Hp) (E : XK), Room 2 (A.deeper (envOfC "shut" (defScope s_shut) s.heap.objs.size f cdv)) → SVs (cxOf CX0 P w K mg base ["web", "place"] "shut" (defScope s_shut) f cdv A outer s H E).nox t_shut (defBody s_shut) w_shut := fun cdv A outer s H E hr =>
    (svs_one (sv_ret (ev_callC C_named_anew (hr.mono (by decide)) (av_cons (ev_callC C_shut_as_named (hr.mono (by decide)) (av_cons (ev_var 0) (av_cons (ev_var 1) av_nil))) av_nil))))
theorem ok_shut {P : Program} {w : World} {K : PySem.W.Frag} {mg : Str → Option Value} {base : Heap} {f : Addr} {fd : FuncData} (F : Fun K "shut" "shut" s_shut f fd) (B : Bn mg) (C1 : Cal P w K mg base "named_anew" 2 ["web"] (spR K g_named_anew)) (C2 : Cal P w K mg base "shut_as_named" 2 ["web", "place"] (spR K g_shut_as_named)) : FnOk P w K mg base CX0 3 f fd ["web", "place"] (spR K g_shut) := by
  refine fn_ro (T := t_shut) F sc_shut rfl (by decide) (fun ds kk h => ?_) (b_shut B C1 C2) (fun ds kk h => ?_)
  · obtain ⟨m, e, A, r, p, rfl, _⟩ := h
    rfl
  · obtain ⟨m, e, A, r, p, rfl, hp, he, hm, he2, k⟩ := h
    have hrl := M.rest_len hp (aft_lt (p := p) (show 0 < e by omega)) (aft_ne he hp)
    simp only [w_shut, wRet, wCall, wCons, env0, List.map_cons, List.map_nil, List.length_cons, List.length_nil, Nat.zero_add, Nat.reduceAdd, List.cons_append, List.nil_append, wNil, r_var, look, oget_s]
    refine ⟨m, e, A, r, p, rfl, hp, he, by omega, by omega, ?_⟩
    exact ⟨m, _, _, _, rfl, hm, by omega, k⟩
def mirA (m : Nat) (A : Nat → Int) (i : Nat) : Int := if i < 4 * m then A (4 * (i / 4) + (i % 4 + 1) % 4) else A i
def mrF : D → D
  | .tup ds => .tup (ds.drop 1 ++ ds.take 1)
  | d => d
theorem range4 {α : Type} {f : Nat → α} : (List.range 4).map f = [f 0, f 1, f 2, f 3] := rfl
theorem cut4a {a b c d : D} : cutD [a, b, c, d] (some 1) none = [b, c, d] := rfl
theorem cut4b {a b c d : D} : cutD [a, b, c, d] none (some 1) = [a] := rfl
theorem mir_cr {m : Nat} {A : Nat → Int} : ((List.range m).map fun k => D.tup ((List.range 4).map fun j => .int (A (4 * k + j)))).map mrF = (List.range m).map fun k => D.tup ((List.range 4).map fun j => .int (mirA m A (4 * k + j))) := by
  rw [List.map_map]
  apply List.map_congr_left
  intro k hk
  have hk := List.mem_range.mp hk
  simp only [Function.comp, range4, mrF, mirA]
  rw [if_pos (by omega), if_pos (by omega), if_pos (by omega), if_pos (by omega)]
  rw [show 4 * ((4 * k + 0) / 4) + ((4 * k + 0) % 4 + 1) % 4 = 4 * k + 1 by omega, show 4 * ((4 * k + 1) / 4) + ((4 * k + 1) % 4 + 1) % 4 = 4 * k + 2 by omega, show 4 * ((4 * k + 2) / 4) + ((4 * k + 2) % 4 + 1) % 4 = 4 * k + 3 by omega, show 4 * ((4 * k + 3) / 4) + ((4 * k + 3) % 4 + 1) % 4 = 4 * k + 0 by omega]
  rfl
theorem mir_en {m e : Nat} {A : Nat → Int} : ((List.range e).map fun j => D.int (mirA m A (4 * m + j))) = (List.range e).map fun j => D.int (A (4 * m + j)) := by
  apply List.map_congr_left
  intro j _
  unfold mirA
  rw [if_neg (by omega)]
theorem mir_pure {m : Nat} {A : Nat → Int} : pureL ((List.range m).map fun k => D.tup ((List.range 4).map fun j => .int (A (4 * k + j)))) = true := pureL_map fun _ _ => by simp only [D.pure]; exact pureL_map fun _ _ => rfl
def g_mirrored : GA := fun ds k => ∃ (m e : Nat) (A : Nat → Int) (r : Int), ds = [webD m e A r] ∧ m ≤ 100 ∧ k (webD m e (mirA m A) r)
abbrev s_mirrored : Stmt := top 5
theorem sc_mirrored : FnScope ["web", "crossings"] ["web"] (defScope s_mirrored) := ⟨rfl, rfl, rfl, by decide +kernel, rfl, by decide +kernel, by decide +kernel⟩
def t_mirrored : Tg := ⟨fun i => i == 1, []⟩
def w_mirrored : WS := (wSeq (wSet 1 (wCall dTuple (wCons (wComp (wSeqD (wBin dIx (wVar 0) (wC (.int 0)))) wAll (wBin dAddT (wSlT (wVar 0) (wSome (wC (.int 1))) wNone) (wSlT (wVar 0) wNone (wSome (wC (.int 1))))) []) wNil)))
  (wRet (wLift (wTup (wCons (wVar 1) (wCons (wBin dIx (wVar 0) (wC (.int 1))) (wCons (wBin dIx (wVar 0) (wC (.int 2))) wNil)))))))
theorem b_mirrored {P : Program} {w : World} {K : PySem.W.Frag} {mg : Str → Option Value} {base : Heap} {f : Addr} (B : Bn mg) : ∀ (cdv : Value) (A : Around) (outer : List PySem.Env) (s : Shared) (H : Hp) (E : XK), Room 0 (A.deeper (envOfC "mirrored" (defScope s_mirrored) s.heap.objs.size f cdv)) → SVs (cxOf CX0 P w K mg base ["web", "crossings"] "mirrored" (defScope s_mirrored) f cdv A outer s H E).nox t_mirrored (defBody s_mirrored) w_mirrored := fun cdv A outer s H E hr =>
    (svs_cons (sv_set (i := 1) (ev_callTy cd_tuple B.nb_tuple bt_tuple (av_cons (ev_compB (comp_ok [] (iv_seq (ev_ix (xd_ix (hu_of hr)) (ev_var 0) ev_int)) (fun _ _ _ _ _ => cv_nil) (fun _ _ _ _ _ => (ev_op od_addT (ev_slT (ev_var 0) (ov_some ev_int) ov_none) (ev_slT (ev_var 0) ov_none (ov_some ev_int))))) (compB_mk (defScope s_mirrored) ["web", "crossings"] (by decide +kernel))) av_nil)) sc_mirrored.nd)
    (svs_one (sv_ret (ev_lift (ev_tup (av_cons (ev_var 1) (av_cons (ev_ix (xd_ix (hu_of hr)) (ev_var 0) ev_int) (av_cons (ev_ix (xd_ix (hu_of hr)) (ev_var 0) ev_int) av_nil))))))))
theorem ok_mirrored {P : Program} {w : World} {K : PySem.W.Frag} {mg : Str → Option Value} {base : Heap} {f : Addr} {fd : FuncData} (F : Fun K "mirrored" "mirrored" s_mirrored f fd) (B : Bn mg) : FnOk P w K mg base CX0 1 f fd ["web"] (spR K g_mirrored) := by
  refine fn_ro (T := t_mirrored) F sc_mirrored rfl (by decide) (fun ds kk h => ?_) (b_mirrored B) (fun ds kk h => ?_)
  · obtain ⟨m, e, A, r, rfl, _⟩ := h
    rfl
  · obtain ⟨m, e, A, r, rfl, hm, k⟩ := h
    simp only [w_mirrored, wSeq, wSet, wCall, wCons, env0, webD, List.map_cons, List.map_nil, List.length_cons, List.length_nil, Nat.zero_add, Nat.reduceAdd, List.replicate, List.cons_append, List.nil_append, wNil, wRet, wLift, wTup, wBin, wC, sz3, D.pure, pureL, Bool.and_true, true_and, r_var, r_comp, r_seq, look, oget_s, r_ixT, atI_0, List.getElem?_cons_zero, r_seqT]
    refine ⟨mir_pure, compI_map mrF (by simp; exact big (by omega)) (fun d hd Q' hQ => ?_) ?_⟩
    · obtain ⟨kk, hk, rfl⟩ := List.mem_map.mp hd
      simp only [range4, blkE, List.map_nil, wBin, wSlT, wNone, r_some, wC, r_intOf, r_var, look, oget_s, r2_slT, pureL, D.pure, Bool.and_self, cut4b, true_and, cut4a, r2_addT, List.length_cons, List.length_nil, Nat.zero_add, Nat.reduceAdd, sz4, List.cons_append, List.nil_append] at hQ ⊢
      exact hQ
    · simp only [mir_cr, List.set_cons_succ, List.set_cons_zero, look, oget_s, r_ixT, atI_2, List.getElem?_cons_succ, List.getElem?_cons_zero, D.pure, Bool.and_true, atI_1, r_tupL, mir_pure, Bool.true_and, true_and]
      unfold webD at k
      rw [mir_en] at k
      exact ⟨pureL_map (fun _ _ => rfl), k⟩
def g_law_cell_at : GA := fun ds k => ∃ (ns : List Int) (i : Int), ds = [.kls (ns.map .int), .int i] ∧ 0 ≤ i ∧ ∀ c : Int, k (.int c)
abbrev s__law_cell_at : Stmt := top 14
theorem sc__law_cell_at : FnScope ["_law_script", "_law_k"] ["_law_script", "_law_k"] (defScope s__law_cell_at) := ⟨rfl, rfl, rfl, by decide +kernel, rfl, by decide +kernel, by decide +kernel⟩
def t__law_cell_at : Tg := ⟨fun i => false, []⟩
def w__law_cell_at : WS := (wSeq (wIf (wBl (wBin (dCmp fun i j => decide (i < j)) (wVar 1) (wCall dLen (wCons (wVar 0) wNil)))) (wRet (wLift (wBin dIx (wVar 0) (wVar 1)))) wNext)
  (wRet (wC (.int 0))))
theorem b__law_cell_at {P : Program} {w : World} {K : PySem.W.Frag} {mg : Str → Option Value} {base : Heap} {f : Addr} (B : Bn mg) : ∀ (cdv : Value) (A : Around) (outer : List PySem.Env) (s : Shared) (H : Hp) (E : XK), Room 0 (A.deeper (envOfC "_law_cell_at" (defScope s__law_cell_at) s.heap.objs.size f cdv)) → SVs (cxOf CX0 P w K mg base ["_law_script", "_law_k"] "_law_cell_at" (defScope s__law_cell_at) f cdv A outer s H E).nox t__law_cell_at (defBody s__law_cell_at) w__law_cell_at := fun cdv A outer s H E hr =>
    (svs_cons (sv_if (tv_cmp od_lt (ev_var 1) (ev_callB cd_len B.nb_len bt_len (av_cons (ev_var 0) av_nil))) (svs_one (sv_ret (ev_lift (ev_ix (xd_ix (hu_of hr)) (ev_var 0) (ev_var 1))))) svs_nil)
    (svs_one (sv_ret ev_int)))
theorem ok__law_cell_at {P : Program} {w : World} {K : PySem.W.Frag} {mg : Str → Option Value} {base : Heap} {f : Addr} {fd : FuncData} (F : Fun K "_law_cell_at" "_law_cell_at" s__law_cell_at f fd) (B : Bn mg) : FnOk P w K mg base CX0 1 f fd ["_law_script", "_law_k"] (spR K g_law_cell_at) := by
  refine fn_ro (T := t__law_cell_at) F sc__law_cell_at rfl (by decide) (fun ds kk h => ?_) (b__law_cell_at B) (fun ds kk h => ?_)
  · obtain ⟨ns, i, rfl, _⟩ := h
    rfl
  · obtain ⟨ns, i, rfl, h0, k⟩ := h
    obtain ⟨i, rfl⟩ := Int.eq_ofNat_of_zero_le h0
    simp only [w__law_cell_at, wSeq, wIf, env0, List.map_cons, List.map_nil, List.length_cons, List.length_nil, Nat.zero_add, Nat.reduceAdd, List.cons_append, List.nil_append, wRet, wLift, wBin, r_var, wNext, wC, r_bl, wCall, wCons, wNil, look, oget_s, r_ixK, r_lenK, r_cmp, r_blOf]
    split
    · rename_i h
      have h : (i : Int) < ((ns.map D.int).length : Int) := by simpa using h
      have hi : i < ns.length := by rw [List.length_map] at h; omega
      rw [atI_ofNat, List.getElem?_map, List.getElem?_eq_getElem hi]
      exact ⟨rfl, k _⟩
    · exact k 0
def g_law_counts : GI := fun ds k => ∃ (c n : Int), ds = [rowD c n] ∧ 0 ≤ n ∧ n ≤ 100 ∧ ∀ (c' n' : Int) (E M O f l : Nat), E % 2 = 0 → M % 2 = 0 → O % 2 = 0 → E ≤ 8 → M ≤ 8 → O ≤ 8 → f ≤ E → f + l ≤ M → l ≤ O → n ≤ n' → n' ≤ n + 5 → k (.tup [.int E, .int M, .int O, .int f, .int l]) (rowD c' n')
abbrev s__law_counts : Stmt := top 19
theorem sc__law_counts : FnScope ["_law_row", "_law_middle", "_law_first", "_law_last", "_law_one", "_law_other"] ["_law_row"] (defScope s__law_counts) := ⟨rfl, rfl, rfl, by decide +kernel, rfl, by decide +kernel, by decide +kernel⟩
def t__law_counts : Tg := ⟨fun i => i == 0 || i == 1 || i == 2 || i == 3 || i == 4 || i == 5, [0]⟩
def w__law_counts : WS := (wSeq (wSet 1 (wBin dMul (wC (.int 2)) (wCallI 0 g_law_take (wHere 0 (wCons (wC (.int 5)) wNil)))))
  (wSeq (wSet 2 (wCallI 0 g_law_take (wHere 0 (wCons (wBin dAddT (wVar 1) (wC (.int 1))) wNil))))
  (wSeq (wSet 3 (wCallI 0 g_law_take (wHere 0 (wCons (wBin dAddT (wBin dSub (wVar 1) (wVar 2)) (wC (.int 1))) wNil))))
  (wSeq (wSet 4 (wBin dAddT (wLift (wVar 2)) (wCallI 0 g_law_take (wHere 0 (wCons (wBin dAddT (wC (.int 1)) (wBin dDiv (wBin dSub (wC (.int 8)) (wVar 1)) (wC (.int 2)))) wNil)))))
  (wSeq (wSet 5 (wBin dAddT (wLift (wVar 3)) (wCallI 0 g_law_take (wHere 0 (wCons (wBin dAddT (wC (.int 1)) (wBin dDiv (wBin dSub (wC (.int 8)) (wVar 1)) (wC (.int 2)))) wNil)))))
  (wRet (wLift (wTup (wCons (wBin dAddT (wVar 4) (wBin dMod (wVar 4) (wC (.int 2)))) (wCons (wVar 1) (wCons (wBin dAddT (wVar 5) (wBin dMod (wVar 5) (wC (.int 2)))) (wCons (wVar 2) (wCons (wVar 3) wNil)))))))))))))
theorem b__law_counts {P : Program} {w : World} {K : PySem.W.Frag} {mg : Str → Option Value} {base : Heap} {f : Addr} (B : Bn mg) (C__law_take : Cal P w K mg base "_law_take" 1 ["_law_row", "_law_base"] (spI K 0 g_law_take)) : ∀ (cdv : Value) (A : Around) (outer : List PySem.Env) (s : Shared) (H : Hp) (E : XK), Room 1 (A.deeper (envOfC "_law_counts" (defScope s__law_counts) s.heap.objs.size f cdv)) → SVs (cxOf CX0 P w K mg base ["_law_row", "_law_middle", "_law_first", "_law_last", "_law_one", "_law_other"] "_law_counts" (defScope s__law_counts) f cdv A outer s H E).nox t__law_counts (defBody s__law_counts) w__law_counts := fun cdv A outer s H E hr =>
    (svs_cons (sv_set (i := 1) (ev_op od_mul ev_int (ev_callIC C__law_take (hr.mono (by decide)) (ai_here (i := 0) (av_cons ev_int av_nil)))) sc__law_counts.nd)
    (svs_cons (sv_set (i := 2) (ev_callIC C__law_take (hr.mono (by decide)) (ai_here (i := 0) (av_cons (ev_op od_addT (ev_var 1) ev_int) av_nil))) sc__law_counts.nd)
    (svs_cons (sv_set (i := 3) (ev_callIC C__law_take (hr.mono (by decide)) (ai_here (i := 0) (av_cons (ev_op od_addT (ev_op od_sub (ev_var 1) (ev_var 2)) ev_int) av_nil))) sc__law_counts.nd)
    (svs_cons (sv_set (i := 4) (ev_op od_addT (ev_lift (ev_var 2)) (ev_callIC C__law_take (hr.mono (by decide)) (ai_here (i := 0) (av_cons (ev_op od_addT ev_int (ev_op od_div (ev_op od_sub ev_int (ev_var 1)) ev_int)) av_nil)))) sc__law_counts.nd)
    (svs_cons (sv_set (i := 5) (ev_op od_addT (ev_lift (ev_var 3)) (ev_callIC C__law_take (hr.mono (by decide)) (ai_here (i := 0) (av_cons (ev_op od_addT ev_int (ev_op od_div (ev_op od_sub ev_int (ev_var 1)) ev_int)) av_nil)))) sc__law_counts.nd)
    (svs_one (sv_ret (ev_lift (ev_tup (av_cons (ev_op od_addT (ev_var 4) (ev_op od_mod (ev_var 4) ev_int)) (av_cons (ev_var 1) (av_cons (ev_op od_addT (ev_var 5) (ev_op od_mod (ev_var 5) ev_int)) (av_cons (ev_var 2) (av_cons (ev_var 3) av_nil))))))))))))))
theorem ok__law_counts {P : Program} {w : World} {K : PySem.W.Frag} {mg : Str → Option Value} {base : Heap} {f : Addr} {fd : FuncData} (F : Fun K "_law_counts" "_law_counts" s__law_counts f fd) (B : Bn mg) (C1 : Cal P w K mg base "_law_take" 1 ["_law_row", "_law_base"] (spI K 0 g_law_take)) : FnOk P w K mg base CX0 2 f fd ["_law_row"] (spI K 0 g_law_counts) := by
  refine fn_io (T := t__law_counts) F sc__law_counts rfl rfl (fun ds kk h => ?_) (b__law_counts B C1) (fun ds kk h => ?_)
  · obtain ⟨c, n, rfl, _⟩ := h
    exact ⟨rfl, _, rfl, rfl⟩
  · obtain ⟨c, n, rfl, hn, hn2, k⟩ := h
    simp only [w__law_counts, wSeq, wSet, wBin, wC, wCallI, wHere, env0, rowD, List.map_cons, List.map_nil, List.length_cons, List.length_nil, Nat.zero_add, Nat.reduceAdd, List.replicate, List.cons_append, List.nil_append, look, Option.isSome_some, wCons, wNil, pureL, D.pure, Bool.and_self, List.set_cons_zero, List.set_cons_succ, Bool.and_true, wLift, wRet, wTup, sz5, true_and, r_var, oget_s, r_flL]
    refine ⟨c, n, 5, rfl, by decide, by decide, by omega, by omega, fun c1 r1 a1 b1 => ?_⟩
    simp only [rowD, r_flL, pureL, D.pure, Bool.and_self, true_and, Int.reduceNeg, Int.reduceLT, r_mulA, Bool.true_and, r_sub, r_divP, r2_add]
    refine ⟨c1, n + 1, 2 * r1 + 1, rfl, by omega, by omega, by omega, by omega, fun c2 r2 a2 b2 => ?_⟩
    simp only [rowD, r_flL, pureL, D.pure, Bool.and_self, Bool.true_and, true_and, r_sub, r2_add]
    refine ⟨c2, n + 1 + 1, 2 * r1 - r2 + 1, rfl, by omega, by omega, by omega, by omega, fun c3 r3 a3 b3 => ?_⟩
    simp only [rowD, r_flL, pureL, D.pure, Bool.and_self, Bool.and_true, true_and]
    refine ⟨c3, n + 1 + 1 + 1, 1 + (8 - 2 * r1) / 2, rfl, by omega, by omega, by omega, by omega, fun c4 r4 a4 b4 => ?_⟩
    simp only [rowD, r_flL, pureL, D.pure, Bool.and_self, true_and, r2_add, Int.reduceLT, r_modP, Bool.true_and]
    refine ⟨c4, n + 1 + 1 + 1 + 1, 1 + (8 - 2 * r1) / 2, rfl, by omega, by omega, by omega, by omega, fun c5 r5 a5 b5 => ?_⟩
    simp only [rowD, r_flL, pureL, D.pure, Bool.and_self, true_and, r2_add, Int.reduceLT, r_modP]
    have := k c5 (n + 1 + 1 + 1 + 1 + 1) (r2 + r4 + (r2 + r4) % 2).toNat (2 * r1).toNat (r3 + r5 + (r3 + r5) % 2).toNat r2.toNat r3.toNat (by omega) (by omega) (by omega) (by omega) (by omega) (by omega) (by omega) (by omega) (by omega) (by omega) (by omega)
    rw [show (((r2 + r4 + (r2 + r4) % 2).toNat : Nat) : Int) = r2 + r4 + (r2 + r4) % 2 by omega, show (((2 * r1).toNat : Nat) : Int) = 2 * r1 by omega, show (((r3 + r5 + (r3 + r5) % 2).toNat : Nat) : Int) = r3 + r5 + (r3 + r5) % 2 by omega, show ((r2.toNat : Nat) : Int) = r2 by omega, show ((r3.toNat : Nat) : Int) = r3 by omega] at this
    exact this
def g_law_drawn : GI := fun ds k => ∃ (c n : Int) (e : Nat), ds = [rowD c n, .int e] ∧ e ≤ 8 ∧ e % 2 = 0 ∧ 0 ≤ n ∧ n ≤ 200 ∧ ∀ (c' n' : Int) (m : Nat) (A : Nat → Int) (g : Nat → Nat) (r : Int), m ≤ 5 → M.Tw (4 * m + e) A g → (∀ i, 0 ≤ A i) → k (webD m e A r) (rowD c' n')
abbrev s__law_drawn : Stmt := top 18
theorem sc__law_drawn : FnScope ["_law_row", "_law_ends"] ["_law_row", "_law_ends"] (defScope s__law_drawn) := ⟨rfl, rfl, rfl, by decide +kernel, rfl, by decide +kernel, by decide +kernel⟩
def t__law_drawn : Tg := ⟨fun i => i == 0, [0]⟩
def w__law_drawn : WS := (wRet (wCallI 0 g_law_web (wHere 0 (wCons (wBin dIx (wLst (wCons (wCallI 0 g_law_take (wHere 0 (wCons (wC (.int 3)) wNil))) (wCons (wCallI 0 g_law_take (wHere 0 (wCons (wC (.int 6)) wNil))) wNil))) (wCall dInt (wCons (wBin dEq (wCallI 0 g_law_take (wHere 0 (wCons (wC (.int 3)) wNil))) (wC (.int 1))) wNil))) (wCons (wVar 1) (wCons (wC (.int 4)) wNil))))))
theorem b__law_drawn {P : Program} {w : World} {K : PySem.W.Frag} {mg : Str → Option Value} {base : Heap} {f : Addr} (B : Bn mg) (C__law_take : Cal P w K mg base "_law_take" 1 ["_law_row", "_law_base"] (spI K 0 g_law_take)) (C__law_web : Cal P w K mg base "_law_web" 3 ["_law_row", "_law_many", "_law_ends", "_law_most"] (spI K 0 g_law_web)) : ∀ (cdv : Value) (A : Around) (outer : List PySem.Env) (s : Shared) (H : Hp) (E : XK), Room 3 (A.deeper (envOfC "_law_drawn" (defScope s__law_drawn) s.heap.objs.size f cdv)) → SVs (cxOf CX0 P w K mg base ["_law_row", "_law_ends"] "_law_drawn" (defScope s__law_drawn) f cdv A outer s H E).nox t__law_drawn (defBody s__law_drawn) w__law_drawn := fun cdv A outer s H E hr =>
    (svs_one (sv_ret (ev_callIC C__law_web (hr.mono (by decide)) (ai_here (i := 0) (av_cons (ev_ix (xd_ix (hu_of hr)) (ev_lst (av_cons (ev_callIC C__law_take (hr.mono (by decide)) (ai_here (i := 0) (av_cons ev_int av_nil))) (av_cons (ev_callIC C__law_take (hr.mono (by decide)) (ai_here (i := 0) (av_cons ev_int av_nil))) av_nil))) (ev_callTy cd_int B.nb_int bt_int (av_cons (ev_cmp (od_eq hr.units) (ev_callIC C__law_take (hr.mono (by decide)) (ai_here (i := 0) (av_cons ev_int av_nil))) ev_int) av_nil))) (av_cons (ev_var 1) (av_cons ev_int av_nil)))))))
theorem ok__law_drawn {P : Program} {w : World} {K : PySem.W.Frag} {mg : Str → Option Value} {base : Heap} {f : Addr} {fd : FuncData} (F : Fun K "_law_drawn" "_law_drawn" s__law_drawn f fd) (B : Bn mg) (C1 : Cal P w K mg base "_law_take" 1 ["_law_row", "_law_base"] (spI K 0 g_law_take)) (C2 : Cal P w K mg base "_law_web" 3 ["_law_row", "_law_many", "_law_ends", "_law_most"] (spI K 0 g_law_web)) : FnOk P w K mg base CX0 4 f fd ["_law_row", "_law_ends"] (spI K 0 g_law_drawn) := by
  refine fn_io (T := t__law_drawn) F sc__law_drawn rfl rfl (fun ds kk h => ?_) (b__law_drawn B C1 C2) (fun ds kk h => ?_)
  · obtain ⟨c, n, e, rfl, _⟩ := h
    exact ⟨rfl, _, rfl, rfl⟩
  · obtain ⟨c, n, e, rfl, he, he2, hn, hn2, k⟩ := h
    simp only [w__law_drawn, wRet, wCallI, wHere, env0, rowD, List.map_cons, List.map_nil, List.length_cons, List.length_nil, Nat.zero_add, Nat.reduceAdd, List.cons_append, List.nil_append, look, Option.isSome_some, wCons, wBin, wLst, wC, wNil, pureL, D.pure, Bool.and_self, List.set_cons_zero, sz2, wCall, Bool.and_true, r_var, oget_s, true_and, r_flL]
    refine ⟨c, n, 3, rfl, by decide, by decide, by omega, by omega, fun c1 r1 a1 b1 => ?_⟩
    simp only [rowD, r_flL, pureL, D.pure, Bool.and_self, true_and]
    refine ⟨c1, n + 1, 6, rfl, by decide, by decide, by omega, by omega, fun c2 r2 a2 b2 => ?_⟩
    simp only [rowD, r_flL, pureL, D.pure, Bool.and_self, true_and]
    refine ⟨c2, n + 1 + 1, 3, rfl, by decide, by decide, by omega, by omega, fun c3 r3 a3 b3 => ?_⟩
    simp only [rowD, r_flL, pureL, D.pure, Bool.and_self, true_and, r_eqI, r_intB, r_ixL]
    obtain ⟨m, hm, hat⟩ : ∃ m : Nat, m ≤ 5 ∧ L2.atI [D.int r1, D.int r2] (if decide (r3 = 1) = true then 1 else 0) = some (.int (m : Int)) := by
      split
      · exact ⟨r2.toNat, by omega, by rw [atI_1, show ((r2.toNat : Nat) : Int) = r2 by omega]; rfl⟩
      · exact ⟨r1.toNat, by omega, by rw [atI_0, show ((r1.toNat : Nat) : Int) = r1 by omega]; rfl⟩
    rw [hat]
    simp only [oget_s, D.pure, true_and]
    refine ⟨c3, n + 1 + 1 + 1, m, e, 4, rfl, by omega, by omega, he2, by omega, by omega, fun c5 n5 A g r tw hA hr hn1 hn2 => ?_⟩
    have := k c5 n5 m A g r hm tw fun i => (hA i).1
    exact ⟨rfl, this⟩
theorem shut_named {m E p : Nat} {A : Nat → Int} {r : Int} {h o : Nat → Nat} {S : Nat → Prop} {G : Nat → Nat} (O : Out m E A h o S G) (hp : p < E) (hE : 2 ≤ E) :
    webD m (M.rest E p (aft E p)).length (M.anw (shA m E p A) (4 * m + (M.rest E p (aft E p)).length)) (shR m E p A r) = webD m (M.rest E p (aft E p)).length (M.anw (shA m E p (M.anw A (4 * m + E))) (4 * m + (M.rest E p (aft E p)).length)) (shR m E p (M.anw A (4 * m + E)) r) := by
  obtain ⟨⟨h1, O1⟩, R1⟩ := O.shut hp hE r
  obtain ⟨⟨h2, O2⟩, R2⟩ := O.named.shut hp hE r
  rw [R1, R2]
  exact webD_congr fun i hi => out_same O1 O2 (fun _ _ => rfl) i hi
theorem ne_web {m e m' e' : Nat} {A A' : Nat → Int} {r r' : Int} {k : D → Prop} (h : webD m e A r = webD m' e' A' r') (hk : k (.bl false)) : dNe (webD m e A r) (webD m' e' A' r') k := by
  rw [h]
  have z := webD_eq9 (m := m') (e := e') (A := A') (r := r')
  unfold webD at z ⊢
  rw [r_neT]
  exact ⟨z, z, fun _ => hk, fun z => absurd rfl z⟩
end K57
set_option Elab.async false
set_option linter.all false
set_option maxRecDepth 100000
set_option maxHeartbeats 4000000
namespace K57
open PySem PySem.Spec L2 PV
open PyProof.Rows (envOfC)
open M (tie)
theorem ite_dec {c : Prop} [Decidable c] {A B : Prop} (h1 : c → A) (h2 : ¬ c → B) : if decide c = true then A else B := by
  by_cases h : c
  · rw [if_pos (decide_eq_true h)]; exact h1 h
  · rw [if_neg (fun z => h (of_decide_eq_true z))]; exact h2 h
theorem end3 {m E : Nat} {A : Nat → Int} {r : Int} {kk : D → Prop} {Z : Prop} (hm : m ≤ 5) (hE : E ≤ 8) (hz : Z) : g_mirrored [webD m E A r] fun d => g_glued [webD m E A r, d, .int E] fun d => dIx d (.int 1) fun d => dNe d (.tup []) fun d => blOf d fun b => if b = true then kk (.bl false) else Z := by
  refine ⟨m, E, A, r, rfl, by omega, m, E, A, r, m, E, _, r, E, rfl, by omega, by omega, by omega, by omega, Nat.le_refl _, Nat.le_refl _, ?_⟩
  have hl := it_len (m := m + m) (B := twoA m E m A (mirA m A)) (r := r + r) E (Nat.le_refl E) (Nat.le_refl E)
  have h0 : (itS (m + m) E (E + E, twoA m E m A (mirA m A), r + r) E).1 = 0 := by omega
  rw [h0]
  simp only [webD, List.range_zero, List.map_nil, r_ixT, atI_1, List.getElem?_cons_succ, List.getElem?_cons_zero, oget_s, r_neT, r_blOf, Bool.false_eq_true, reduceIte]
  exact ⟨rfl, rfl, fun _ => hz, fun z => absurd rfl z⟩
theorem end2 {m1 E m2 Md : Nat} {A1 A2 : Nat → Int} {g1 g2 : Nat → Nat} {r1 r2 : Int} {kk : D → Prop} {Z : Prop} (T1 : M.Tw (4 * m1 + E) A1 g1) (T2 : M.Tw (4 * m2 + Md) A2 g2) (p2 : ∀ i, 0 ≤ A2 i) (h1 : m1 ≤ 5) (h2 : m2 ≤ 5) (hE : 0 < E) (hE2 : E ≤ 8) (hM : 0 < Md) (hM2 : Md ≤ 8) (hz : Z) :
    g_glued [webD m1 E A1 r1, webD m2 Md A2 r2, .int 1] fun d => g_glued [webD m1 E A1 r1, webD m2 Md A2 r2, .int 0] fun d' => g_shut [d', .int ((E : Int) - 1)] fun d'' => dNe d d'' fun d => blOf d fun b => if b = true then kk (.bl false) else Z := by
  refine ⟨m1, E, A1, r1, m2, Md, A2, r2, 1, rfl, by omega, by omega, by omega, by omega, by omega, by omega, m1, E, A1, r1, m2, Md, A2, r2, 0, rfl, by omega, by omega, by omega, by omega, by omega, by omega, ?_⟩
  rw [show (E : Int) - 1 = ((E - 1 : Nat) : Int) by omega]
  refine ⟨m1 + m2, E + Md, M.anw (twoA m1 E m2 A1 A2) (4 * (m1 + m2) + (E + Md)), r1 + r2, E - 1, rfl, by omega, by omega, by omega, by omega, ?_⟩
  refine ne_web (shut_named (p := E - 1) (two_out (out1 (g2 := g2) (g3 := fun x => x) T1) (out2 (g1 := g1) (g3 := fun x => x) T2) p2 fun _ => d12) (show E - 1 < E + Md by omega) (show 2 ≤ E + Md by omega)) ?_
  rw [r_blOf, if_neg (by decide)]
  exact hz
theorem end1 {m1 E m2 Md m3 O f l : Nat} {A1 A2 A3 : Nat → Int} {g1 g2 g3 : Nat → Nat} {r1 r2 r3 : Int} {kk : D → Prop} {Z : Prop} (T1 : M.Tw (4 * m1 + E) A1 g1) (T2 : M.Tw (4 * m2 + Md) A2 g2) (T3 : M.Tw (4 * m3 + O) A3 g3) (p2 : ∀ i, 0 ≤ A2 i) (p3 : ∀ i, 0 ≤ A3 i) (h1 : m1 ≤ 5) (h2 : m2 ≤ 5) (h3 : m3 ≤ 5) (hE : E ≤ 8) (hM : Md ≤ 8) (hO : O ≤ 8) (kf : f ≤ E) (kfl : f + l ≤ Md) (kl : l ≤ O) (w1 : E + Md ≤ 8 + 2 * f) (w2 : Md + O ≤ 8 + 2 * l) (hz : Z) :
    g_glued [webD m1 E A1 r1, webD m2 Md A2 r2, .int f] fun d => g_glued [d, webD m3 O A3 r3, .int l] fun d => g_glued [webD m2 Md A2 r2, webD m3 O A3 r3, .int l] fun d' => g_glued [webD m1 E A1 r1, d', .int f] fun d'' => dNe d d'' fun d => blOf d fun b => if b = true then kk (.bl false) else Z := by
  have la := it_len (m := m1 + m2) (B := twoA m1 E m2 A1 A2) (r := r1 + r2) f kf (show f ≤ Md by omega)
  have lb := it_len (m := m2 + m3) (B := twoA m2 Md m3 A2 A3) (r := r2 + r3) l (show l ≤ Md by omega) kl
  refine ⟨m1, E, A1, r1, m2, Md, A2, r2, f, rfl, by omega, by omega, by omega, by omega, by omega, by omega, m1 + m2, _, _, _, m3, O, A3, r3, l, rfl, by omega, by omega, by omega, by omega, by omega, by omega,
    m2, Md, A2, r2, m3, O, A3, r3, l, rfl, by omega, by omega, by omega, by omega, by omega, by omega, m1, E, A1, r1, m2 + m3, _, _, _, f, rfl, by omega, by omega, by omega, by omega, by omega, by omega, ?_⟩
  refine ne_web (either (r1 := r1) (r2 := r2) (r3 := r3) T1 T2 T3 p2 p3 kf kfl kl rfl rfl rfl rfl) ?_
  rw [r_blOf, if_neg (by decide)]
  exact hz
def g_law : GA := fun ds k => ∃ ns : List Int, ds = [.kls (ns.map .int)] ∧ ns.length ≤ 63 ∧ k (.bl true)
abbrev s_law : Stmt := top 20
theorem sc_law : FnScope ["_law_script", "_law_k", "_law_row", "_law_ends", "_law_middle", "_law_others", "_law_first", "_law_last", "_law_one", "_law_two", "_law_three", "_law_wide"] ["_law_script"] (defScope s_law) := ⟨rfl, rfl, rfl, by decide +kernel, rfl, by decide +kernel, by decide +kernel⟩
def t_law : Tg := ⟨fun i => i == 1 || i == 2 || i == 3 || i == 4 || i == 5 || i == 6 || i == 7 || i == 8 || i == 9 || i == 10 || i == 11, []⟩
def w_law : WS := (wSeq (wFor (wRng3 (wCons (wC (.int 0)) (wCons (wBin dAddT (wC (.int 1)) (wCall dMin2 (wCons (wC (.int 14)) (wCons (wCall dLen (wCons (wVar 0) wNil)) wNil)))) (wCons (wC (.int 3)) wNil)))) (gN 1) (wSeq (wSet 2 (wLst (wCons (wCall g_law_cell_at (wCons (wVar 0) (wCons (wVar 1) wNil))) (wCons (wC (.int 0)) wNil))))
  (wSeq (wAsg (wCallI 2 g_law_counts (wHere 2 wNil)) (gTupD 5 (gConsD (gN 3) (gConsD (gN 4) (gConsD (gN 5) (gConsD (gN 6) (gConsD (gN 7) gNilD)))))))
  (wSeq (wSet 8 (wCallI 2 g_law_drawn (wHere 2 (wCons (wVar 3) wNil))))
  (wSeq (wSet 9 (wCallF g_law_drawn (wCons (wLst (wCons (wCall g_law_cell_at (wCons (wVar 0) (wCons (wBin dAddT (wVar 1) (wC (.int 1))) wNil))) (wCons (wC (.int 30)) wNil))) (wCons (wLift (wVar 4)) wNil))))
  (wSeq (wSet 10 (wCallF g_law_drawn (wCons (wLst (wCons (wCall g_law_cell_at (wCons (wVar 0) (wCons (wBin dAddT (wVar 1) (wC (.int 2))) wNil))) (wCons (wC (.int 60)) wNil))) (wCons (wLift (wVar 5)) wNil))))
  (wSeq (wSet 11 (wLst (wCons (wBin dSub (wBin dAddT (wVar 3) (wVar 4)) (wBin dMul (wC (.int 2)) (wVar 6))) (wCons (wBin dSub (wBin dAddT (wVar 4) (wVar 5)) (wBin dMul (wC (.int 2)) (wVar 7))) (wCons (wBin dSub (wBin dSub (wBin dAddT (wBin dAddT (wVar 3) (wVar 4)) (wVar 5)) (wBin dMul (wC (.int 2)) (wVar 6))) (wBin dMul (wC (.int 2)) (wVar 7))) wNil)))))
  (wSeq (wIf (wBl (wBin (dCmp fun i j => decide (i ≤ j)) (wCall dMaxL (wCons (wVar 11) wNil)) (wC (.int 8)))) (wIf (wBl (wBin dNe (wCall g_glued (wCons (wCall g_glued (wCons (wVar 8) (wCons (wVar 9) (wCons (wVar 6) wNil)))) (wCons (wVar 10) (wCons (wVar 7) wNil)))) (wCall g_glued (wCons (wVar 8) (wCons (wCall g_glued (wCons (wVar 9) (wCons (wVar 10) (wCons (wVar 7) wNil)))) (wCons (wVar 6) wNil)))))) (wRet (wC (.bl false))) wNext) wNext)
  (wSeq (wIf (wAnd (wChain (dCmp fun i j => decide (i < j)) (dCmp fun i j => decide (i ≤ j)) (wC (.int 0)) (wVar 3) (wC (.int 4))) (wAnd (wChain (dCmp fun i j => decide (i < j)) (dCmp fun i j => decide (i ≤ j)) (wC (.int 0)) (wVar 4) (wC (.int 4))) (wBl (wBin dNe (wCall g_glued (wCons (wVar 8) (wCons (wVar 9) (wCons (wC (.int 1)) wNil)))) (wCall g_shut (wCons (wCall g_glued (wCons (wVar 8) (wCons (wVar 9) (wCons (wC (.int 0)) wNil)))) (wCons (wBin dSub (wVar 3) (wC (.int 1))) wNil))))))) (wRet (wC (.bl false))) wNext)
  (wIf (wBl (wBin dNe (wBin dIx (wCall g_glued (wCons (wVar 8) (wCons (wCall g_mirrored (wCons (wVar 8) wNil)) (wCons (wVar 3) wNil)))) (wC (.int 1))) (wTup wNil))) (wRet (wC (.bl false))) wNext))))))))))
  (wRet (wC (.bl true))))
theorem b_law {P : Program} {w : World} {K : PySem.W.Frag} {mg : Str → Option Value} {base : Heap} {f : Addr} (B : Bn mg) (C_mirrored : Cal P w K mg base "mirrored" 1 ["web"] (spR K g_mirrored)) (C_shut : Cal P w K mg base "shut" 3 ["web", "place"] (spR K g_shut)) (C_glued : Cal P w K mg base "glued" 4 ["one", "other", "many"] (spR K g_glued)) (C__law_cell_at : Cal P w K mg base "_law_cell_at" 1 ["_law_script", "_law_k"] (spR K g_law_cell_at)) (C__law_drawn : Cal P w K mg base "_law_drawn" 4 ["_law_row", "_law_ends"] (spI K 0 g_law_drawn)) (C__law_counts : Cal P w K mg base "_law_counts" 2 ["_law_row"] (spI K 0 g_law_counts)) : ∀ (cdv : Value) (A : Around) (outer : List PySem.Env) (s : Shared) (H : Hp) (E : XK), Room 4 (A.deeper (envOfC "law" (defScope s_law) s.heap.objs.size f cdv)) → SVs (cxOf CX0 P w K mg base ["_law_script", "_law_k", "_law_row", "_law_ends", "_law_middle", "_law_others", "_law_first", "_law_last", "_law_one", "_law_two", "_law_three", "_law_wide"] "law" (defScope s_law) f cdv A outer s H E).nox t_law (defBody s_law) w_law := fun cdv A outer s H E hr =>
    (svs_cons (sv_for PassesOwn.never (iv_range3 B.nb_range (av_cons ev_int (av_cons (ev_op od_addT ev_int (ev_callB (cd_min2 rfl) B.nb_min bt_min (av_cons ev_int (av_cons (ev_callB cd_len B.nb_len bt_len (av_cons (ev_var 0) av_nil)) av_nil)))) (av_cons ev_int av_nil)))) (gv_name (i := 1) sc_law.nd) (svs_cons (sv_set (i := 2) (ev_lst (av_cons (ev_callC C__law_cell_at (hr.mono (by decide)) (av_cons (ev_var 0) (av_cons (ev_var 1) av_nil))) (av_cons ev_int av_nil))) sc_law.nd)
    (svs_cons (sv_asg (ev_callIC C__law_counts (hr.mono (by decide)) (ai_here (i := 2) av_nil)) (gv_tup (gvs_cons (gv_name (i := 3) sc_law.nd) (gvs_cons (gv_name (i := 4) sc_law.nd) (gvs_cons (gv_name (i := 5) sc_law.nd) (gvs_cons (gv_name (i := 6) sc_law.nd) (gvs_cons (gv_name (i := 7) sc_law.nd) gvs_nil)))))))
    (svs_cons (sv_set (i := 8) (ev_callIC C__law_drawn (hr.mono (by decide)) (ai_here (i := 2) (av_cons (ev_var 3) av_nil))) sc_law.nd)
    (svs_cons (sv_set (i := 9) (ev_callF C__law_drawn (hr.mono (by decide)) (av_cons (ev_lst (av_cons (ev_callC C__law_cell_at (hr.mono (by decide)) (av_cons (ev_var 0) (av_cons (ev_op od_addT (ev_var 1) ev_int) av_nil))) (av_cons ev_int av_nil))) (av_cons (ev_lift (ev_var 4)) av_nil))) sc_law.nd)
    (svs_cons (sv_set (i := 10) (ev_callF C__law_drawn (hr.mono (by decide)) (av_cons (ev_lst (av_cons (ev_callC C__law_cell_at (hr.mono (by decide)) (av_cons (ev_var 0) (av_cons (ev_op od_addT (ev_var 1) ev_int) av_nil))) (av_cons ev_int av_nil))) (av_cons (ev_lift (ev_var 5)) av_nil))) sc_law.nd)
    (svs_cons (sv_set (i := 11) (ev_lst (av_cons (ev_op od_sub (ev_op od_addT (ev_var 3) (ev_var 4)) (ev_op od_mul ev_int (ev_var 6))) (av_cons (ev_op od_sub (ev_op od_addT (ev_var 4) (ev_var 5)) (ev_op od_mul ev_int (ev_var 7))) (av_cons (ev_op od_sub (ev_op od_sub (ev_op od_addT (ev_op od_addT (ev_var 3) (ev_var 4)) (ev_var 5)) (ev_op od_mul ev_int (ev_var 6))) (ev_op od_mul ev_int (ev_var 7))) av_nil)))) sc_law.nd)
    (svs_cons (sv_if (tv_cmp od_le (ev_callB (cd_maxL rfl) B.nb_max bt_max (av_cons (ev_var 11) av_nil)) ev_int) (svs_one (sv_if (tv_cmp (od_ne hr.units) (ev_callC C_glued (hr.mono (by decide)) (av_cons (ev_callC C_glued (hr.mono (by decide)) (av_cons (ev_var 8) (av_cons (ev_var 9) (av_cons (ev_var 6) av_nil)))) (av_cons (ev_var 10) (av_cons (ev_var 7) av_nil)))) (ev_callC C_glued (hr.mono (by decide)) (av_cons (ev_var 8) (av_cons (ev_callC C_glued (hr.mono (by decide)) (av_cons (ev_var 9) (av_cons (ev_var 10) (av_cons (ev_var 7) av_nil)))) (av_cons (ev_var 6) av_nil))))) (svs_one (sv_ret ev_bl)) svs_nil)) svs_nil)
    (svs_cons (sv_if (tv_bool (bv_and (tv_chain od_lt od_le ev_int (ev_var 3) ev_int) (bv_and (tv_chain od_lt od_le ev_int (ev_var 4) ev_int) (bv_and1 (tv_cmp (od_ne hr.units) (ev_callC C_glued (hr.mono (by decide)) (av_cons (ev_var 8) (av_cons (ev_var 9) (av_cons ev_int av_nil)))) (ev_callC C_shut (hr.mono (by decide)) (av_cons (ev_callC C_glued (hr.mono (by decide)) (av_cons (ev_var 8) (av_cons (ev_var 9) (av_cons ev_int av_nil)))) (av_cons (ev_op od_sub (ev_var 3) ev_int) av_nil)))))))) (svs_one (sv_ret ev_bl)) svs_nil)
    (svs_one (sv_if (tv_cmp (od_ne hr.units) (ev_ix (xd_ix (hu_of hr)) (ev_callC C_glued (hr.mono (by decide)) (av_cons (ev_var 8) (av_cons (ev_callC C_mirrored (hr.mono (by decide)) (av_cons (ev_var 8) av_nil)) (av_cons (ev_var 3) av_nil)))) ev_int) (ev_tup av_nil)) (svs_one (sv_ret ev_bl)) svs_nil)))))))))))
    (svs_one (sv_ret ev_bl)))
theorem ok_law {P : Program} {w : World} {K : PySem.W.Frag} {mg : Str → Option Value} {base : Heap} {f : Addr} {fd : FuncData} (F : Fun K "law" "law" s_law f fd) (B : Bn mg) (C1 : Cal P w K mg base "mirrored" 1 ["web"] (spR K g_mirrored)) (C2 : Cal P w K mg base "shut" 3 ["web", "place"] (spR K g_shut)) (C3 : Cal P w K mg base "glued" 4 ["one", "other", "many"] (spR K g_glued)) (C4 : Cal P w K mg base "_law_cell_at" 1 ["_law_script", "_law_k"] (spR K g_law_cell_at)) (C5 : Cal P w K mg base "_law_drawn" 4 ["_law_row", "_law_ends"] (spI K 0 g_law_drawn)) (C6 : Cal P w K mg base "_law_counts" 2 ["_law_row"] (spI K 0 g_law_counts)) : FnOk P w K mg base CX0 5 f fd ["_law_script"] (spR K g_law) := by
  refine fn_ro (T := t_law) F sc_law rfl (by decide) (fun ds kk h => ?_) (b_law B C1 C2 C3 C4 C5 C6) (fun ds kk h => ?_)
  · obtain ⟨ns, rfl, _⟩ := h
    rfl
  · obtain ⟨ns, rfl, hns, k⟩ := h
    simp only [w_law, wSeq, env0, List.map_cons, List.map_nil, List.length_cons, List.length_nil, Nat.zero_add, Nat.reduceAdd, List.replicate, List.cons_append, List.nil_append, r_for, r8_rng3, wCons, wC, wBin, wCall, wNil, r_var, look, oget_s, r_lenK, List.length_map, r_min, r2_add, r8_rng3I, Int.reducePow, Int.reduceNeg, Int.reduceLE, Int.reduceLT, true_and, pure_rngS]
    have hmin : ∃ q : Int, (1 + if (ns.length : Int) < 14 then (ns.length : Int) else 14) = q ∧ 0 ≤ q ∧ q ≤ 15 := ⟨_, rfl, by split <;> omega, by split <;> omega⟩
    obtain ⟨q, hq, q0, q1⟩ := hmin
    rw [hq]
    refine ⟨by omega, .inr trivial, fun _ ρ => ∃ o1 o2 o3 o4 o5 o6 o7 o8 o9 o10 o11 : Option D, ρ = [some (.kls (ns.map .int)), o1, o2, o3, o4, o5, o6, o7, o8, o9, o10, o11], ⟨none, none, none, none, none, none, none, none, none, none, none, rfl⟩, ?_, ?_⟩
    · rintro i d ρ hd ⟨o1, o2, o3, o4, o5, o6, o7, o8, o9, o10, o11, rfl⟩
      obtain ⟨hi, rfl⟩ := rngS_get hd
      simp only [gN, wSeq, wSet, wLst, wCons, wCall, List.set_cons_succ, List.set_cons_zero, wNil, wC, List.length_cons, List.length_nil, Nat.zero_add, Nat.reduceAdd, sz2, wAsg, wCallI, wHere, pureL, List.nil_append, true_and, r_var, look, Option.isSome_some, oget_s, r_flL, D.pure, Bool.and_self, Bool.and_true]
      refine ⟨ns, _, rfl, by omega, fun c => ?_⟩
      simp only [D.pure, true_and]
      refine ⟨c, 0, rfl, by decide, by decide, fun c1 n1 E M O f l hE hM hO bE bM bO kf kfl kl n1a n1b => ?_⟩
      simp only [D.pure, pureL, Bool.and_self, r_gTup, List.length_cons, List.length_nil, Nat.zero_add, Nat.reduceAdd, r_gCons, gN, List.set_cons_succ, List.set_cons_zero, r_gNil, wSeq, wSet, wCallI, wHere, look, Option.isSome_some, wCons, wNil, Bool.and_true, List.nil_append, wLst, wBin, wC, sz3, wIf, wRet, wNext, wAnd, wChain, r_bl, wCall, wTup, sz0, true_and, r_var, Bool.false_eq_true, reduceIte, r8_callF, sz2, wLift, r8_cf, r_flL, oget_s, r_sub, r_cmp, r_blOf, r12_maxL, Int.reduceNeg, Int.reduceLT, r_mulA, r2_add]
      refine ⟨rfl, c1, n1, E, rfl, bE, hE, by omega, by omega, fun c2 n2 m1 A1 g1 r1 hm1 T1 p1 => ?_⟩
      simp only []
      refine ⟨ns, _, rfl, by omega, fun c3 => ?_⟩
      simp only [D.pure, true_and]
      refine ⟨c3, 30, M, rfl, bM, hM, by omega, by omega, fun c4 n4 m2 A2 g2 r2 hm2 T2 p2 => ?_⟩
      simp only []
      refine ⟨ns, _, rfl, by omega, fun c5 => ?_⟩
      simp only [D.pure, true_and]
      refine ⟨c5, 60, O, rfl, bO, hO, by omega, by omega, fun c6 n6 m3 A3 g3 r3 hm3 T3 p3 => ?_⟩
      simp only []
      refine ⟨[(E : Int) + M - 2 * f, (M : Int) + O - 2 * l, (E : Int) + M + O - 2 * f - 2 * l], rfl, Nat.zero_lt_succ _, fun W _ hW => ?_⟩
      have w1 := hW _ (List.mem_cons_self)
      have w2 := hW _ (List.mem_cons_of_mem _ List.mem_cons_self)
      refine ite_dec (fun hc => ?_) fun _ => ?_
      · refine end1 T1 T2 T3 p2 p3 hm1 hm2 hm3 bE bM bO kf kfl kl (by omega) (by omega) ?_
        exact ite_dec (fun z1 => ite_dec (fun _ => ite_dec (fun z2 => ite_dec (fun _ => end2 T1 T2 p2 hm1 hm2 (by omega) bE (by omega) bM (end3 hm1 bE ⟨_, _, _, _, _, _, _, _, _, _, _, rfl⟩)) fun _ => end3 hm1 bE ⟨_, _, _, _, _, _, _, _, _, _, _, rfl⟩) fun _ => end3 hm1 bE ⟨_, _, _, _, _, _, _, _, _, _, _, rfl⟩) fun _ => end3 hm1 bE ⟨_, _, _, _, _, _, _, _, _, _, _, rfl⟩) fun _ => end3 hm1 bE ⟨_, _, _, _, _, _, _, _, _, _, _, rfl⟩
      · exact ite_dec (fun z1 => ite_dec (fun _ => ite_dec (fun z2 => ite_dec (fun _ => end2 T1 T2 p2 hm1 hm2 (by omega) bE (by omega) bM (end3 hm1 bE ⟨_, _, _, _, _, _, _, _, _, _, _, rfl⟩)) fun _ => end3 hm1 bE ⟨_, _, _, _, _, _, _, _, _, _, _, rfl⟩) fun _ => end3 hm1 bE ⟨_, _, _, _, _, _, _, _, _, _, _, rfl⟩) fun _ => end3 hm1 bE ⟨_, _, _, _, _, _, _, _, _, _, _, rfl⟩) fun _ => end3 hm1 bE ⟨_, _, _, _, _, _, _, _, _, _, _, rfl⟩
    · rintro ρ ⟨o1, o2, o3, o4, o5, o6, o7, o8, o9, o10, o11, rfl⟩
      simp only [wRet, wC]
      exact k
end K57
set_option Elab.async false
set_option linter.all false
set_option maxRecDepth 100000
set_option maxHeartbeats 4000000
namespace K57
open PySem PySem.Spec L2 PV
open PyProof.Rows (envOfC)
theorem all_mk {l : PySem.W.OpenLaw} {w : World} {K : PySem.W.Frag} {h : Heap} {mg : Str → Option Value} {fa : Addr} (X : K.In h) (G : h.Ns mainGlobals mg) (hfa : mg "law" = some (.ref fa))
    {f1 : Addr} {od1 an1 : Option Addr} {sl1 : Array (Option Value)} {oc1 kV1 dc1 pm1 cd1 ct1 : Value}
    (a1 : PySem.W.nsIn K mainGlobals "places" = some (some (.ref f1))) (l1 : K.lookup f1 = some ⟨oc1, od1, .func (PySem.W.fnOf "places" "places" (defArgs s_places) (defBody s_places) (defScope s_places) .none kV1 dc1 pm1 an1 cd1 ct1), sl1⟩) (c1 : PySem.W.codeIn K cd1 "places" = true) (k1 : PySem.W.keepIn K (.ref f1) = true)
    {f2 : Addr} {od2 an2 : Option Addr} {sl2 : Array (Option Value)} {oc2 kV2 dc2 pm2 cd2 ct2 : Value}
    (a2 : PySem.W.nsIn K mainGlobals "renamed" = some (some (.ref f2))) (l2 : K.lookup f2 = some ⟨oc2, od2, .func (PySem.W.fnOf "renamed" "renamed" (defArgs s_renamed) (defBody s_renamed) (defScope s_renamed) .none kV2 dc2 pm2 an2 cd2 ct2), sl2⟩) (c2 : PySem.W.codeIn K cd2 "renamed" = true) (k2 : PySem.W.keepIn K (.ref f2) = true)
    {f3 : Addr} {od3 an3 : Option Addr} {sl3 : Array (Option Value)} {oc3 kV3 dc3 pm3 cd3 ct3 : Value}
    (a3 : PySem.W.nsIn K mainGlobals "named_anew" = some (some (.ref f3))) (l3 : K.lookup f3 = some ⟨oc3, od3, .func (PySem.W.fnOf "named_anew" "named_anew" (defArgs s_named_anew) (defBody s_named_anew) (defScope s_named_anew) .none kV3 dc3 pm3 an3 cd3 ct3), sl3⟩) (c3 : PySem.W.codeIn K cd3 "named_anew" = true) (k3 : PySem.W.keepIn K (.ref f3) = true)
    {f4 : Addr} {od4 an4 : Option Addr} {sl4 : Array (Option Value)} {oc4 kV4 dc4 pm4 cd4 ct4 : Value}
    (a4 : PySem.W.nsIn K mainGlobals "mirrored" = some (some (.ref f4))) (l4 : K.lookup f4 = some ⟨oc4, od4, .func (PySem.W.fnOf "mirrored" "mirrored" (defArgs s_mirrored) (defBody s_mirrored) (defScope s_mirrored) .none kV4 dc4 pm4 an4 cd4 ct4), sl4⟩) (c4 : PySem.W.codeIn K cd4 "mirrored" = true) (k4 : PySem.W.keepIn K (.ref f4) = true)
    {f5 : Addr} {od5 an5 : Option Addr} {sl5 : Array (Option Value)} {oc5 kV5 dc5 pm5 cd5 ct5 : Value}
    (a5 : PySem.W.nsIn K mainGlobals "called" = some (some (.ref f5))) (l5 : K.lookup f5 = some ⟨oc5, od5, .func (PySem.W.fnOf "called" "called" (defArgs s_called) (defBody s_called) (defScope s_called) .none kV5 dc5 pm5 an5 cd5 ct5), sl5⟩) (c5 : PySem.W.codeIn K cd5 "called" = true) (k5 : PySem.W.keepIn K (.ref f5) = true)
    {f6 : Addr} {od6 an6 : Option Addr} {sl6 : Array (Option Value)} {oc6 kV6 dc6 pm6 cd6 ct6 : Value}
    (a6 : PySem.W.nsIn K mainGlobals "shut_as_named" = some (some (.ref f6))) (l6 : K.lookup f6 = some ⟨oc6, od6, .func (PySem.W.fnOf "shut_as_named" "shut_as_named" (defArgs s_shut_as_named) (defBody s_shut_as_named) (defScope s_shut_as_named) .none kV6 dc6 pm6 an6 cd6 ct6), sl6⟩) (c6 : PySem.W.codeIn K cd6 "shut_as_named" = true) (k6 : PySem.W.keepIn K (.ref f6) = true)
    {f7 : Addr} {od7 an7 : Option Addr} {sl7 : Array (Option Value)} {oc7 kV7 dc7 pm7 cd7 ct7 : Value}
    (a7 : PySem.W.nsIn K mainGlobals "shut" = some (some (.ref f7))) (l7 : K.lookup f7 = some ⟨oc7, od7, .func (PySem.W.fnOf "shut" "shut" (defArgs s_shut) (defBody s_shut) (defScope s_shut) .none kV7 dc7 pm7 an7 cd7 ct7), sl7⟩) (c7 : PySem.W.codeIn K cd7 "shut" = true) (k7 : PySem.W.keepIn K (.ref f7) = true)
    {f8 : Addr} {od8 an8 : Option Addr} {sl8 : Array (Option Value)} {oc8 kV8 dc8 pm8 cd8 ct8 : Value}
    (a8 : PySem.W.nsIn K mainGlobals "raised" = some (some (.ref f8))) (l8 : K.lookup f8 = some ⟨oc8, od8, .func (PySem.W.fnOf "raised" "raised" (defArgs s_raised) (defBody s_raised) (defScope s_raised) .none kV8 dc8 pm8 an8 cd8 ct8), sl8⟩) (c8 : PySem.W.codeIn K cd8 "raised" = true) (k8 : PySem.W.keepIn K (.ref f8) = true)
    {f9 : Addr} {od9 an9 : Option Addr} {sl9 : Array (Option Value)} {oc9 kV9 dc9 pm9 cd9 ct9 : Value}
    (a9 : PySem.W.nsIn K mainGlobals "both" = some (some (.ref f9))) (l9 : K.lookup f9 = some ⟨oc9, od9, .func (PySem.W.fnOf "both" "both" (defArgs s_both) (defBody s_both) (defScope s_both) .none kV9 dc9 pm9 an9 cd9 ct9), sl9⟩) (c9 : PySem.W.codeIn K cd9 "both" = true) (k9 : PySem.W.keepIn K (.ref f9) = true)
    {f10 : Addr} {od10 an10 : Option Addr} {sl10 : Array (Option Value)} {oc10 kV10 dc10 pm10 cd10 ct10 : Value}
    (a10 : PySem.W.nsIn K mainGlobals "glued" = some (some (.ref f10))) (l10 : K.lookup f10 = some ⟨oc10, od10, .func (PySem.W.fnOf "glued" "glued" (defArgs s_glued) (defBody s_glued) (defScope s_glued) .none kV10 dc10 pm10 an10 cd10 ct10), sl10⟩) (c10 : PySem.W.codeIn K cd10 "glued" = true) (k10 : PySem.W.keepIn K (.ref f10) = true)
    {f11 : Addr} {od11 an11 : Option Addr} {sl11 : Array (Option Value)} {oc11 kV11 dc11 pm11 cd11 ct11 : Value}
    (a11 : PySem.W.nsIn K mainGlobals "_law_cell_at" = some (some (.ref f11))) (l11 : K.lookup f11 = some ⟨oc11, od11, .func (PySem.W.fnOf "_law_cell_at" "_law_cell_at" (defArgs s__law_cell_at) (defBody s__law_cell_at) (defScope s__law_cell_at) .none kV11 dc11 pm11 an11 cd11 ct11), sl11⟩) (c11 : PySem.W.codeIn K cd11 "_law_cell_at" = true) (k11 : PySem.W.keepIn K (.ref f11) = true)
    {f12 : Addr} {od12 an12 : Option Addr} {sl12 : Array (Option Value)} {oc12 kV12 dc12 pm12 cd12 ct12 : Value}
    (a12 : PySem.W.nsIn K mainGlobals "_law_take" = some (some (.ref f12))) (l12 : K.lookup f12 = some ⟨oc12, od12, .func (PySem.W.fnOf "_law_take" "_law_take" (defArgs s__law_take) (defBody s__law_take) (defScope s__law_take) .none kV12 dc12 pm12 an12 cd12 ct12), sl12⟩) (c12 : PySem.W.codeIn K cd12 "_law_take" = true) (k12 : PySem.W.keepIn K (.ref f12) = true)
    {f13 : Addr} {od13 an13 : Option Addr} {sl13 : Array (Option Value)} {oc13 kV13 dc13 pm13 cd13 ct13 : Value}
    (a13 : PySem.W.nsIn K mainGlobals "_law_arcs" = some (some (.ref f13))) (l13 : K.lookup f13 = some ⟨oc13, od13, .func (PySem.W.fnOf "_law_arcs" "_law_arcs" (defArgs s__law_arcs) (defBody s__law_arcs) (defScope s__law_arcs) .none kV13 dc13 pm13 an13 cd13 ct13), sl13⟩) (c13 : PySem.W.codeIn K cd13 "_law_arcs" = true) (k13 : PySem.W.keepIn K (.ref f13) = true)
    {f14 : Addr} {od14 an14 : Option Addr} {sl14 : Array (Option Value)} {oc14 kV14 dc14 pm14 cd14 ct14 : Value}
    (a14 : PySem.W.nsIn K mainGlobals "_law_web" = some (some (.ref f14))) (l14 : K.lookup f14 = some ⟨oc14, od14, .func (PySem.W.fnOf "_law_web" "_law_web" (defArgs s__law_web) (defBody s__law_web) (defScope s__law_web) .none kV14 dc14 pm14 an14 cd14 ct14), sl14⟩) (c14 : PySem.W.codeIn K cd14 "_law_web" = true) (k14 : PySem.W.keepIn K (.ref f14) = true)
    {f15 : Addr} {od15 an15 : Option Addr} {sl15 : Array (Option Value)} {oc15 kV15 dc15 pm15 cd15 ct15 : Value}
    (a15 : PySem.W.nsIn K mainGlobals "_law_drawn" = some (some (.ref f15))) (l15 : K.lookup f15 = some ⟨oc15, od15, .func (PySem.W.fnOf "_law_drawn" "_law_drawn" (defArgs s__law_drawn) (defBody s__law_drawn) (defScope s__law_drawn) .none kV15 dc15 pm15 an15 cd15 ct15), sl15⟩) (c15 : PySem.W.codeIn K cd15 "_law_drawn" = true) (k15 : PySem.W.keepIn K (.ref f15) = true)
    {f16 : Addr} {od16 an16 : Option Addr} {sl16 : Array (Option Value)} {oc16 kV16 dc16 pm16 cd16 ct16 : Value}
    (a16 : PySem.W.nsIn K mainGlobals "_law_counts" = some (some (.ref f16))) (l16 : K.lookup f16 = some ⟨oc16, od16, .func (PySem.W.fnOf "_law_counts" "_law_counts" (defArgs s__law_counts) (defBody s__law_counts) (defScope s__law_counts) .none kV16 dc16 pm16 an16 cd16 ct16), sl16⟩) (c16 : PySem.W.codeIn K cd16 "_law_counts" = true) (k16 : PySem.W.keepIn K (.ref f16) = true)
    {f17 : Addr} {od17 an17 : Option Addr} {sl17 : Array (Option Value)} {oc17 kV17 dc17 pm17 cd17 ct17 : Value}
    (a17 : PySem.W.nsIn K mainGlobals "law" = some (some (.ref f17))) (l17 : K.lookup f17 = some ⟨oc17, od17, .func (PySem.W.fnOf "law" "law" (defArgs s_law) (defBody s_law) (defScope s_law) .none kV17 dc17 pm17 an17 cd17 ct17), sl17⟩) (c17 : PySem.W.codeIn K cd17 "law" = true) (k17 : PySem.W.keepIn K (.ref f17) = true)
    (z_enumerate : PySem.W.nsIn K mainGlobals "enumerate" = some none)
    (z_int : PySem.W.nsIn K mainGlobals "int" = some none)
    (z_len : PySem.W.nsIn K mainGlobals "len" = some none)
    (z_list : PySem.W.nsIn K mainGlobals "list" = some none)
    (z_max : PySem.W.nsIn K mainGlobals "max" = some none)
    (z_min : PySem.W.nsIn K mainGlobals "min" = some none)
    (z_range : PySem.W.nsIn K mainGlobals "range" = some none)
    (z_tuple : PySem.W.nsIn K mainGlobals "tuple" = some none)
    {tk_RIM : Tok} (z_RIM : PySem.W.nsIn K mainGlobals "RIM" = some (some (.int (-1) tk_RIM)))
    : ∃ fd : FuncData, (∀ (s : Shared) (v : Value), BindsTo s fd ⟨[v], []⟩ [("_law_script", v)]) ∧ ∀ base : Heap, K.In base → base.Ns mainGlobals mg → FnOk l.prog w K mg base CX0 5 fa fd ["_law_script"] (spR K g_law) := by
  have e := hfa.symm.trans (PySem.W.mg_of X G a17)
  cases e
  have B : Bn mg := ⟨PySem.W.mg_none_of X G z_enumerate, PySem.W.mg_none_of X G z_int, PySem.W.mg_none_of X G z_len, PySem.W.mg_none_of X G z_list, PySem.W.mg_none_of X G z_max, PySem.W.mg_none_of X G z_min, PySem.W.mg_none_of X G z_range, PySem.W.mg_none_of X G z_tuple, ⟨tk_RIM, PySem.W.mg_of X G z_RIM⟩⟩
  have F1 := fun_mk (st := s_places) l1 c1 k1
  have F2 := fun_mk (st := s_renamed) l2 c2 k2
  have F3 := fun_mk (st := s_named_anew) l3 c3 k3
  have F4 := fun_mk (st := s_mirrored) l4 c4 k4
  have F5 := fun_mk (st := s_called) l5 c5 k5
  have F6 := fun_mk (st := s_shut_as_named) l6 c6 k6
  have F7 := fun_mk (st := s_shut) l7 c7 k7
  have F8 := fun_mk (st := s_raised) l8 c8 k8
  have F9 := fun_mk (st := s_both) l9 c9 k9
  have F10 := fun_mk (st := s_glued) l10 c10 k10
  have F11 := fun_mk (st := s__law_cell_at) l11 c11 k11
  have F12 := fun_mk (st := s__law_take) l12 c12 k12
  have F13 := fun_mk (st := s__law_arcs) l13 c13 k13
  have F14 := fun_mk (st := s__law_web) l14 c14 k14
  have F15 := fun_mk (st := s__law_drawn) l15 c15 k15
  have F16 := fun_mk (st := s__law_counts) l16 c16 k16
  have F17 := fun_mk (st := s_law) l17 c17 k17
  refine ⟨PySem.W.fnOf "law" "law" (defArgs s_law) (defBody s_law) (defScope s_law) .none kV17 dc17 pm17 an17 cd17 ct17, fun s v => .of_eq rfl, fun base _ _ => ?_⟩
  have C_places : Cal l.prog w K mg base "places" 1 ["web"] (spR K g_places) := ⟨f1, _, ok_places F1 B, PySem.W.mg_of X G a1, k1, F1.binds fun _ _ _ _ _ _ us hl => match us, hl with | [_], _ => rfl⟩
  have C_renamed : Cal l.prog w K mg base "renamed" 1 ["arcs", "names"] (spR K g_renamed) := ⟨f2, _, ok_renamed F2 B, PySem.W.mg_of X G a2, k2, F2.binds fun _ _ _ _ _ _ us hl => match us, hl with | [_, _], _ => rfl⟩
  have C_named_anew : Cal l.prog w K mg base "named_anew" 2 ["web"] (spR K g_named_anew) := ⟨f3, _, ok_named_anew F3 B C_places C_renamed, PySem.W.mg_of X G a3, k3, F3.binds fun _ _ _ _ _ _ us hl => match us, hl with | [_], _ => rfl⟩
  have C_mirrored : Cal l.prog w K mg base "mirrored" 1 ["web"] (spR K g_mirrored) := ⟨f4, _, ok_mirrored F4 B, PySem.W.mg_of X G a4, k4, F4.binds fun _ _ _ _ _ _ us hl => match us, hl with | [_], _ => rfl⟩
  have C_called : Cal l.prog w K mg base "called" 1 ["arcs", "gone", "kept"] (spR K g_called) := ⟨f5, _, ok_called F5 B, PySem.W.mg_of X G a5, k5, F5.binds fun _ _ _ _ _ _ us hl => match us, hl with | [_, _, _], _ => rfl⟩
  have C_shut_as_named : Cal l.prog w K mg base "shut_as_named" 2 ["web", "place"] (spR K g_shut_as_named) := ⟨f6, _, ok_shut_as_named F6 B C_called, PySem.W.mg_of X G a6, k6, F6.binds fun _ _ _ _ _ _ us hl => match us, hl with | [_, _], _ => rfl⟩
  have C_shut : Cal l.prog w K mg base "shut" 3 ["web", "place"] (spR K g_shut) := ⟨f7, _, ok_shut F7 B C_named_anew C_shut_as_named, PySem.W.mg_of X G a7, k7, F7.binds fun _ _ _ _ _ _ us hl => match us, hl with | [_, _], _ => rfl⟩
  have C_raised : Cal l.prog w K mg base "raised" 1 ["arcs", "many"] (spR K g_raised) := ⟨f8, _, ok_raised F8 B, PySem.W.mg_of X G a8, k8, F8.binds fun _ _ _ _ _ _ us hl => match us, hl with | [_, _], _ => rfl⟩
  have C_both : Cal l.prog w K mg base "both" 3 ["one", "other"] (spR K g_both) := ⟨f9, _, ok_both F9 B C_places C_named_anew C_raised, PySem.W.mg_of X G a9, k9, F9.binds fun _ _ _ _ _ _ us hl => match us, hl with | [_, _], _ => rfl⟩
  have C_glued : Cal l.prog w K mg base "glued" 4 ["one", "other", "many"] (spR K g_glued) := ⟨f10, _, ok_glued F10 B C_named_anew C_shut_as_named C_both, PySem.W.mg_of X G a10, k10, F10.binds fun _ _ _ _ _ _ us hl => match us, hl with | [_, _, _], _ => rfl⟩
  have C__law_cell_at : Cal l.prog w K mg base "_law_cell_at" 1 ["_law_script", "_law_k"] (spR K g_law_cell_at) := ⟨f11, _, ok__law_cell_at F11 B, PySem.W.mg_of X G a11, k11, F11.binds fun _ _ _ _ _ _ us hl => match us, hl with | [_, _], _ => rfl⟩
  have C__law_take : Cal l.prog w K mg base "_law_take" 1 ["_law_row", "_law_base"] (spI K 0 g_law_take) := ⟨f12, _, ok__law_take F12 B, PySem.W.mg_of X G a12, k12, F12.binds fun _ _ _ _ _ _ us hl => match us, hl with | [_, _], _ => rfl⟩
  have C__law_arcs : Cal l.prog w K mg base "_law_arcs" 2 ["_law_row", "_law_many"] (spI K 0 g_law_arcs) := ⟨f13, _, ok__law_arcs F13 B C__law_take, PySem.W.mg_of X G a13, k13, F13.binds fun _ _ _ _ _ _ us hl => match us, hl with | [_, _], _ => rfl⟩
  have C__law_web : Cal l.prog w K mg base "_law_web" 3 ["_law_row", "_law_many", "_law_ends", "_law_most"] (spI K 0 g_law_web) := ⟨f14, _, ok__law_web F14 B C__law_take C__law_arcs, PySem.W.mg_of X G a14, k14, F14.binds fun _ _ _ _ _ _ us hl => match us, hl with | [_, _, _, _], _ => rfl⟩
  have C__law_drawn : Cal l.prog w K mg base "_law_drawn" 4 ["_law_row", "_law_ends"] (spI K 0 g_law_drawn) := ⟨f15, _, ok__law_drawn F15 B C__law_take C__law_web, PySem.W.mg_of X G a15, k15, F15.binds fun _ _ _ _ _ _ us hl => match us, hl with | [_, _], _ => rfl⟩
  have C__law_counts : Cal l.prog w K mg base "_law_counts" 2 ["_law_row"] (spI K 0 g_law_counts) := ⟨f16, _, ok__law_counts F16 B C__law_take, PySem.W.mg_of X G a16, k16, F16.binds fun _ _ _ _ _ _ us hl => match us, hl with | [_], _ => rfl⟩
  exact ok_law F17 B C_mirrored C_shut C_glued C__law_cell_at C__law_drawn C__law_counts
theorem law_sp {K : PySem.W.Frag} {H : Hp} {a : Addr} {ns : List Int} (hl : ns.length ≤ 63) (ho : Only H) (hS : SqL K H a (ns.map V.int)) : spR K g_law [.ref a] H (fun v _ => v = .bl true) fun _ _ _ => False := by
  have fz : FzL K H a (ns.map V.int) := by
    rcases hS with (h | h) | h
    · rcases ho a with z | ⟨o, xs, z⟩
      · rw [z] at h; cases h
      · rw [z] at h; cases h
    · exact .inl h
    · exact .inr h
  refine ⟨[.kls (ns.map .int)], [], fun d => d = .bl true, ?_, ⟨ns, rfl, hl, rfl⟩, fun v H' d F' fi hd => ?_⟩
  · exact .cons (F := []) (G := []) (.kls fz (Reps.ints ns)) .nil
  · subst hd
    exact rep_bl fi.rep
theorem walk {l : PySem.W.OpenLaw} {q : Program} {loose : List Str} {XP : (Str → Option Value) → Heap → Prop} {YP : World → Heap → Prop} {d : DefRec} {K : Params → PySem.W.Frag} (hn : l.most = some 63) (hdf : d.params.defaults = [])
    (hY : ∀ (w : World) (h : Heap), YP w h → (K w.params).In h)
    (F : ∀ (w : World) (mg : Str → Option Value) (fa : Addr) (h : Heap), (K w.params).In h → h.Ns mainGlobals mg → mg d.name = some (.ref fa) →
      ∃ fd : FuncData, (∀ (s : Shared) (u : Value), BindsTo s fd ⟨[u], []⟩ [("_law_script", u)]) ∧ ∀ base : Heap, (K w.params).In base → base.Ns mainGlobals mg → FnOk l.prog w (K w.params) mg base CX0 5 fa fd ["_law_script"] (spR (K w.params) g_law)) :
    PySem.W.WalkO q loose XP YP l.row.toRowW d [] (fun f vs => PySem.call f vs) :=
  L2.walk_of (n := 63) (k := 5) (x := "_law_script") (CX := fun _ => CX0) (sp := fun w => spR (K w.params) g_law) hn (by decide) hdf ⟨rfl, by decide, by decide⟩ hY F (fun _ _ a ns hl ho hS => law_sp hl ho hS) fun _ _ _ _ _ z => z
end K57
open PySem PySem.W PyProof.Rows
set_option maxRecDepth 100000 in
set_option maxHeartbeats 0 in
theorem PySem.Challenge.cw_tanglehouse_k57_whole_glued_in_either_or_holds : PySem.Challenge.rw_tanglehouse_k57_whole_glued_in_either_or.Holds := by
  w_on; o_law; k_head; (case hw => w_witness2)
  k_fill
  refine K57.walk (l := PySem.Challenge.rw_tanglehouse_k57_whole_glued_in_either_or) rfl rfl (fun w h Y => PySem.W.kIn_of Y) ?F
  case F =>
    intro w mg fa h KX G hmg
    refine' K57.all_mk KX G hmg ?a1 ?l1 ?c1 ?k1 ?a2 ?l2 ?c2 ?k2 ?a3 ?l3 ?c3 ?k3 ?a4 ?l4 ?c4 ?k4 ?a5 ?l5 ?c5 ?k5 ?a6 ?l6 ?c6 ?k6 ?a7 ?l7 ?c7 ?k7 ?a8 ?l8 ?c8 ?k8 ?a9 ?l9 ?c9 ?k9 ?a10 ?l10 ?c10 ?k10 ?a11 ?l11 ?c11 ?k11 ?a12 ?l12 ?c12 ?k12 ?a13 ?l13 ?c13 ?k13 ?a14 ?l14 ?c14 ?k14 ?a15 ?l15 ?c15 ?k15 ?a16 ?l16 ?c16 ?k16 ?a17 ?l17 ?c17 ?k17 ?z_enumerate ?z_int ?z_len ?z_list ?z_max ?z_min ?z_range ?z_tuple ?z_RIM
    (case a1 => k_is)
    (case l1 => k_is)
    (case c1 => k_is)
    (case k1 => k_is)
    (case a2 => k_is)
    (case l2 => k_is)
    (case c2 => k_is)
    (case k2 => k_is)
    (case a3 => k_is)
    (case l3 => k_is)
    (case c3 => k_is)
    (case k3 => k_is)
    (case a4 => k_is)
    (case l4 => k_is)
    (case c4 => k_is)
    (case k4 => k_is)
    (case a5 => k_is)
    (case l5 => k_is)
    (case c5 => k_is)
    (case k5 => k_is)
    (case a6 => k_is)
    (case l6 => k_is)
    (case c6 => k_is)
    (case k6 => k_is)
    (case a7 => k_is)
    (case l7 => k_is)
    (case c7 => k_is)
    (case k7 => k_is)
    (case a8 => k_is)
    (case l8 => k_is)
    (case c8 => k_is)
    (case k8 => k_is)
    (case a9 => k_is)
    (case l9 => k_is)
    (case c9 => k_is)
    (case k9 => k_is)
    (case a10 => k_is)
    (case l10 => k_is)
    (case c10 => k_is)
    (case k10 => k_is)
    (case a11 => k_is)
    (case l11 => k_is)
    (case c11 => k_is)
    (case k11 => k_is)
    (case a12 => k_is)
    (case l12 => k_is)
    (case c12 => k_is)
    (case k12 => k_is)
    (case a13 => k_is)
    (case l13 => k_is)
    (case c13 => k_is)
    (case k13 => k_is)
    (case a14 => k_is)
    (case l14 => k_is)
    (case c14 => k_is)
    (case k14 => k_is)
    (case a15 => k_is)
    (case l15 => k_is)
    (case c15 => k_is)
    (case k15 => k_is)
    (case a16 => k_is)
    (case l16 => k_is)
    (case c16 => k_is)
    (case k16 => k_is)
    (case a17 => k_is)
    (case l17 => k_is)
    (case c17 => k_is)
    (case k17 => k_is)
    (case z_enumerate => k_is)
    (case z_int => k_is)
    (case z_len => k_is)
    (case z_list => k_is)
    (case z_max => k_is)
    (case z_min => k_is)
    (case z_range => k_is)
    (case z_tuple => k_is)
    (case z_RIM => k_is)
