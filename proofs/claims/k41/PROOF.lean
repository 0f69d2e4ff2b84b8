import PyProof.Rows.All
import Wide.All
import OpenK.AllK
import Wide.FinOn
import Lean
import PyProof.EqAt
import PyProof.EqKinds
import PyProof.TupleCall
import PySem.SetTable
import PyProof.SetKind
import PyProof.SetNew
import PyProof.SetRoads
import PyProof.TupleKey
import PyProof.IsRules
import PyProof.Rows.SetFrom
import PyProof.CollectWalk
import PyProof.CollectIter
import KE.KSortTup
import PyProof.DictWalks
import PyProof.DictItems
import KE.KDictOf
import KE.KMinKey
import PyProof.Rows.CallKwBuiltin
import PyProof.Rows.Range3
import PyProof.ZipIter
import KE.KEqSeq
import PyProof.NeKinds
import PySem.Challenge.RW_lampcues_k41_numbers_come_to
set_option Elab.async false
set_option linter.all false
set_option maxRecDepth 100000
namespace L2
open PySem PySem.Spec PyProof.Rows
abbrev Key := Sum Int Str
def keyIs : Key → Value → Bool
  | .inl k, v => Value.isInt k v
  | .inr x, v => Value.isStrOf x v
def keyH (w : World) : Key → Int
  | .inl k => hashInt k
  | .inr x => hashStr w x
theorem keyIs_shape : ∀ {k : Key} {v : Value}, keyIs k v = true → (∃ i t, k = Sum.inl i ∧ v = Value.int i t) ∨ (∃ x t, k = Sum.inr x ∧ v = Value.str x t)
  | .inl i, v, h => by
    obtain ⟨t, e⟩ := Value.isInt_shape (k := i) (v := v) h
    exact .inl ⟨i, t, rfl, e⟩
  | .inr x, v, h => by
    obtain ⟨t, e⟩ := Value.isStrOf_shape (x := x) (v := v) h
    exact .inr ⟨x, t, rfl, e⟩
theorem keyIs_int (i : Int) (t : Tok) : keyIs (.inl i) (.int i t) = true := by simp [keyIs, Value.isInt]
theorem keyIs_str (x : Str) (t : Tok) : keyIs (.inr x) (.str x t) = true := by simp [keyIs, Value.isStrOf]
theorem key_ll (a b : Int) : decide ((Sum.inl a : Key) = Sum.inl b) = (a == b) := by
  by_cases e : a = b
  · subst e; simp
  · have h : ¬ (Sum.inl a : Key) = Sum.inl b := fun q => e (Sum.inl.inj q)
    rw [decide_eq_false h]
    exact (beq_eq_false_iff_ne.mpr e).symm
theorem key_rr (a b : Str) : decide ((Sum.inr a : Key) = Sum.inr b) = decide (a = b) := by
  by_cases e : a = b
  · subst e; simp
  · have h : ¬ (Sum.inr a : Key) = Sum.inr b := fun q => e (Sum.inr.inj q)
    rw [decide_eq_false h, decide_eq_false e]
theorem key_lr (a : Int) (b : Str) : decide ((Sum.inl a : Key) = Sum.inr b) = false := decide_eq_false (fun q => nomatch q)
theorem key_rl (a : Str) (b : Int) : decide ((Sum.inr a : Key) = Sum.inl b) = false := decide_eq_false (fun q => nomatch q)
def mixKind (prog : Program) (w : World) : PySem.KeyKind prog w Key where
  is := keyIs
  hash := keyH w
  inj := fun v a b ha hb => by
    rcases keyIs_shape ha with ⟨i, t, rfl, rfl⟩ | ⟨x, t, rfl, rfl⟩
    · rcases keyIs_shape hb with ⟨j, u, rfl, e⟩ | ⟨y, u, rfl, e⟩
      · injection e with e1 _; rw [e1]
      · exact nomatch e
    · rcases keyIs_shape hb with ⟨j, u, rfl, e⟩ | ⟨y, u, rfl, e⟩
      · exact nomatch e
      · injection e with e1 _; rw [e1]
  byValue := fun k v h => by
    rcases keyIs_shape h with ⟨i, t, rfl, rfl⟩ | ⟨x, t, rfl, rfl⟩ <;> rfl
  pyHash := fun hv h => by
    rcases keyIs_shape hv with ⟨i, t, rfl, rfl⟩ | ⟨x, t, rfl, rfl⟩
    · exact wpAny_pyHash_int h
    · exact wpAny_pyHash_str h
  eqBool := fun hu hv h => by
    rcases keyIs_shape hu with ⟨i, t, rfl, rfl⟩ | ⟨x, t, rfl, rfl⟩
    · rcases keyIs_shape hv with ⟨j, u, rfl, rfl⟩ | ⟨y, u, rfl, rfl⟩
      · rw [key_ll] at h; exact wpAny_eqBool_int h
      · rw [key_lr] at h; exact SeqAt.EqAt.int_str i t y u _ _ _ _ h
    · rcases keyIs_shape hv with ⟨j, u, rfl, rfl⟩ | ⟨y, u, rfl, rfl⟩
      · rw [key_rl] at h; exact SeqAt.EqAt.str_int x t j u _ _ _ _ h
      · rw [key_rr] at h; exact wpAny_eqBool_str h
  «strs» := fun k x t v h => by
    rcases keyIs_shape h with ⟨i, u, rfl, e⟩ | ⟨y, u, rfl, e⟩
    · exact nomatch e
    · injection e with e1 _
      subst e1
      cases v <;> rfl
theorem mixKind_int (prog : Program) (w : World) (i : Int) (t : Tok) : (mixKind prog w).is (.inl i) (.int i t) = true := keyIs_int i t
theorem mixKind_str (prog : Program) (w : World) (x : Str) (t : Tok) : (mixKind prog w).is (.inr x) (.str x t) = true := keyIs_str x t
end L2
namespace L2
open PySem PySem.Spec PyProof.Rows
inductive V where
  | non | bl (b : Bool) | int (i : Int) | str (x : Str) | byt (b : Array UInt8) | flt (b : UInt64) | ref (a : Addr) | ty (n : String)
  deriving DecidableEq
def RelV : V → Value → Prop
  | .non, u => u = Value.none
  | .bl b, u => u = Value.bool b
  | .int i, u => ∃ t, u = Value.int i t
  | .str x, u => ∃ t, u = Value.str x t
  | .byt b, u => ∃ t, u = Value.bytes b t
  | .flt b, u => ∃ t, u = Value.float b t
  | .ref a, u => u = Value.ref a
  | .ty n, u => u = Value.type n
abbrev Vals : List V → List Value → Prop := Paired RelV
theorem Vals.length {xs : List V} {us : List Value} (r : Vals xs us) : xs.length = us.length := Paired.length r
theorem Vals.get : ∀ {xs : List V} {us : List Value} {i : Nat} {x : V}, Vals xs us → xs[i]? = some x → ∃ u, us[i]? = some u ∧ RelV x u
  | _, _, _, _, .nil, e => by simp at e
  | _, _, 0, _, .cons r _, e => by simp at e; subst e; exact ⟨_, rfl, r⟩
  | _, _, i + 1, x, .cons _ t, e => by
    obtain ⟨u, h1, h2⟩ := Vals.get (i := i) (x := x) t (by simpa using e)
    exact ⟨u, by simpa using h1, h2⟩
theorem Vals.set {x : V} {u : Value} (r : RelV x u) : ∀ {xs : List V} {us : List Value} (i : Nat), Vals xs us → Vals (xs.set i x) (us.set i u)
  | _, _, _, .nil => .nil
  | _, _, 0, .cons _ t => .cons r t
  | _, _, i + 1, .cons q t => .cons q (Vals.set r i t)
theorem Vals.append : ∀ {xs ys : List V} {us ws : List Value}, Vals xs us → Vals ys ws → Vals (xs ++ ys) (us ++ ws)
  | _, _, _, _, .nil, s => s
  | _, _, _, _, .cons r t, s => .cons r (Vals.append t s)
theorem Vals.take : ∀ {xs : List V} {us : List Value} (n : Nat), Vals xs us → Vals (xs.take n) (us.take n)
  | _, _, 0, _ => .nil
  | _, _, _ + 1, .nil => .nil
  | _, _, n + 1, .cons r t => .cons r (Vals.take n t)
theorem Vals.drop : ∀ {xs : List V} {us : List Value} (n : Nat), Vals xs us → Vals (xs.drop n) (us.drop n)
  | _, _, 0, r => r
  | _, _, _ + 1, .nil => .nil
  | _, _, n + 1, .cons _ t => Vals.drop n t
theorem Vals.none_of : ∀ {xs : List V} {us : List Value} {i : Nat}, Vals xs us → xs[i]? = none → us[i]? = none := fun {xs us i} r e => by
  have h1 := r.length
  have h2 : xs.length ≤ i := List.getElem?_eq_none_iff.mp e
  exact List.getElem?_eq_none_iff.mpr (by omega)
def RelO : Option V → Option Value → Prop
  | some v, some u => RelV v u
  | none, none => True
  | _, _ => False
def KV {κ : Type} : List (κ × V) → List (κ × Value) → Prop := Paired fun (p : κ × V) (q : κ × Value) => p.1 = q.1 ∧ RelV p.2 q.2
def kV : Key → V
  | .inl i => .int i
  | .inr x => .str x
inductive HO where
  | lst (xs : List V)
  | tup (xs : List V)
  | dK (kvs : List (Key × V)) | dT (kvs : List (List Key × V))
  | set (S : Int → Bool) (n : Nat)
  | ins (C dx : Addr) (fs : List (Str × V))
  | own (x : Addr)
  | xd (fs : List (Str × V))
  | met (f x : Addr)
  | rng (lo hi : Int)
  | frz (o : Obj) (u : HO)
  | tbl (ps : Array Value)
  | ext (φ : Heap → Prop)
abbrev Hp := Addr → Option HO
def upd (H : Hp) (a : Addr) (o : HO) : Hp := fun b => if b = a then some o else H b
theorem upd_same {H : Hp} {a : Addr} {o : HO} : upd H a o a = some o := by unfold upd; rw [if_pos rfl]
theorem upd_ne {H : Hp} {a b : Addr} {o : HO} (h : b ≠ a) : upd H a o b = H b := by unfold upd; rw [if_neg h]
theorem ne_of {H : Hp} {a b : Addr} {o u : HO} (h : H a = some o) (h' : H b = some u) (d : o ≠ u) : a ≠ b := by
  intro e; subst e; rw [h] at h'; exact d (Option.some.inj h')
theorem ne_of_none {H : Hp} {a b : Addr} {o : HO} (h : H a = some o) (h' : H b = none) : a ≠ b := by
  intro e; subst e; rw [h] at h'; cases h'
section
variable (P : Program) (w : World)
def ObjOk (H : Hp) (h : Heap) (a : Addr) : HO → Prop
  | .lst xs => xs.length ≤ sizeLine ∧ ∃ (its : List Value) (n : Nat), Vals xs its ∧ h.get? a = some { cls := .type "list", data := .seq its.toArray n }
  | .tup xs => xs.length ≤ sizeLine ∧ ∃ its : List Value, Vals xs its ∧ IsTup h a its.toArray
  | .dK kvs => kvs.length ≤ sizeLine ∧ (a == sysModules) = false ∧ ∃ vs, KV kvs vs ∧ h.DictOf (mixKind P w) a vs
  | .dT kvs => kvs.length ≤ sizeLine ∧ (a == sysModules) = false ∧ ∃ xs : List (List Key × Addr × Value),
      Paired (fun (p : List Key × V) (q : List Key × Addr × Value) => p.1 = q.1 ∧ H q.2.1 = some (.tup (p.1.map kV)) ∧ RelV p.2 q.2.2) kvs xs ∧
      ∃ o es ep, h.get? a = some o ∧ o.ExactDict ∧ o.data = .dict es ep ∧ es.toList = xs.map (entryOfKey (tupleKind (mixKind P w))) ∧ (xs.map (·.1)).Nodup
  | .set S n => h.SetOf (intKind P w) a S n
  | .ins C dx fs => H dx = some (.own a) ∧ fs.length ≤ 1000 ∧ dx ≠ a ∧ h.get? a = some (PySem.W.instObj C dx) ∧
      ∃ mA, h.Ns1 dx mA ∧ (∀ f, RelO (fs.lookup f) (mA f)) ∧ PySem.Within mA (fs.map (·.1))
  | .own _ => ∃ o, h.get? a = some o
  | .xd fs => ∃ mA, h.Ns1 a mA ∧ ∀ f, RelO (fs.lookup f) (mA f)
  | .rng lo hi => ∃ t u v, h.get? a = some { cls := .type "range", data := .fields #[.int lo t, .int hi u, .int 1 v] }
  | .frz o u => h.get? a = some o ∧ ObjOk H h a u
  | .tbl ps => h.get? a = some { cls := .none, data := .fields ps }
  | .met f x => h.get? a = some (PySem.W.methodObj (.ref f) (.ref x))
  | .ext φ => φ h ∧ (∃ o, h.get? a = some o) ∧ ∀ h1 h2 : Heap, φ h1 → (∀ o, h1.get? a = some o → h2.get? a = some o) → φ h2
def HOk (H : Hp) (h : Heap) : Prop := ∀ a o, H a = some o → ObjOk P w H h a o
end
section
variable {P : Program} {w : World} {H H' : Hp} {h h' : Heap} {a : Addr} {o : HO}
theorem ObjOk.lt (x : ObjOk P w H h a o) : a < h.objs.size := by
  cases o with
  | lst xs => obtain ⟨_, _, _, _, e⟩ := x; exact Heap.lt_size e
  | tup xs => obtain ⟨_, _, _, p⟩ := x; exact p.lt
  | dK kvs => obtain ⟨_, _, _, _, o, _, _, e, _⟩ := x; exact Heap.lt_size e
  | dT kvs => obtain ⟨_, _, _, _, o, _, _, e, _⟩ := x; exact Heap.lt_size e
  | set S n => obtain ⟨o, _, _, _, e, _⟩ := x; exact Heap.lt_size e
  | ins C dx fs => obtain ⟨_, _, _, e, _⟩ := x; exact Heap.lt_size e
  | own y => obtain ⟨_, e⟩ := x; exact Heap.lt_size e
  | xd fs => obtain ⟨_, ⟨_, _, _, e, _⟩, _⟩ := x; exact Heap.lt_size e
  | rng lo hi => obtain ⟨_, _, _, e⟩ := x; exact Heap.lt_size e
  | frz ob u => obtain ⟨e, _⟩ := x; exact Heap.lt_size e
  | tbl ps => exact Heap.lt_size (show h.get? a = some _ from x)
  | met f y => exact Heap.lt_size (show h.get? a = some _ from x)
  | ext φ => obtain ⟨_, ⟨_, e⟩, _⟩ := x; exact Heap.lt_size e
theorem Paired.mapP {α β : Type} {F G : α → β → Prop} : ∀ {l₁ : List α} {l₂ : List β}, Paired F l₁ l₂ → (∀ a b, F a b → G a b) → Paired G l₁ l₂
  | _, _, .nil, _ => .nil
  | _, _, .cons r t, f => .cons (f _ _ r) (Paired.mapP t f)
theorem ObjOk.stay (x : ObjOk P w H h a o) (k : ∀ b u, (b = a ∨ H b = some (.own a)) → h.get? b = some u → h'.get? b = some u)
    (ho : ∀ b, H b = some (.own a) → H' b = some (.own a)) (ht : ∀ b xs, H b = some (.tup xs) → H' b = some (.tup xs)) : ObjOk P w H' h' a o := by
  induction o with
  | lst xs => obtain ⟨z, its, n, r, e⟩ := x; exact ⟨z, its, n, r, k _ _ (.inl rfl) e⟩
  | tup xs => obtain ⟨z, its, r, ob, e, c⟩ := x; exact ⟨z, its, r, ob, k _ _ (.inl rfl) e, c⟩
  | dK kvs => obtain ⟨z, y, vs, r, ob, es, ep, e, c⟩ := x; exact ⟨z, y, vs, r, ob, es, ep, k _ _ (.inl rfl) e, c⟩
  | dT kvs =>
    obtain ⟨z, y, xs, r, ob, es, ep, e, c⟩ := x
    exact ⟨z, y, xs, Paired.mapP r fun p q z => ⟨z.1, ht _ _ z.2.1, z.2.2⟩, ob, es, ep, k _ _ (.inl rfl) e, c⟩
  | set S n => obtain ⟨ob, es, ep, t, e, c⟩ := x; exact ⟨ob, es, ep, t, k _ _ (.inl rfl) e, c⟩
  | ins C dx fs =>
    obtain ⟨d, z, ne, e, mA, ⟨od, es, ep, e2, c⟩, r⟩ := x
    exact ⟨ho _ d, z, ne, k _ _ (.inl rfl) e, mA, ⟨od, es, ep, k _ _ (.inr d) e2, c⟩, r⟩
  | own y => obtain ⟨ob, e⟩ := x; exact ⟨ob, k _ _ (.inl rfl) e⟩
  | xd fs => obtain ⟨mA, ⟨od, es, ep, e, c⟩, r⟩ := x; exact ⟨mA, ⟨od, es, ep, k _ _ (.inl rfl) e, c⟩, r⟩
  | rng lo hi => obtain ⟨t, u, v, e⟩ := x; exact ⟨t, u, v, k _ _ (.inl rfl) e⟩
  | frz ob u ih => obtain ⟨e, q⟩ := x; exact ⟨k _ _ (.inl rfl) e, ih q⟩
  | tbl ps =>
    have e : h.get? a = some { cls := .none, data := .fields ps } := x
    show h'.get? a = some { cls := .none, data := .fields ps }
    exact k a _ (.inl rfl) e
  | met f y =>
    have e : h.get? a = some (PySem.W.methodObj (.ref f) (.ref y)) := x
    show h'.get? a = some (PySem.W.methodObj (.ref f) (.ref y))
    exact k a _ (.inl rfl) e
  | ext φ => obtain ⟨p, ⟨o, e⟩, st⟩ := x; exact ⟨st _ _ p fun o q => k _ _ (.inl rfl) q, ⟨o, k _ _ (.inl rfl) e⟩, st⟩
theorem HOk.lt (x : HOk P w H h) (e : H a = some o) : a < h.objs.size := (x a o e).lt
theorem HOk.fresh (x : HOk P w H h) (e : h.objs.size ≤ a) : H a = none := by
  cases q : H a with
  | none => rfl
  | some u => exact absurd (Nat.lt_of_lt_of_le (x.lt q) e) (Nat.lt_irrefl _)
theorem HOk.kept (x : HOk P w H h) (k : ∀ b u, h.get? b = some u → h'.get? b = some u) : HOk P w H h' := fun a o e =>
  (x a o e).stay (fun b u _ q => k b u q) (fun _ q => q) fun _ _ q => q
theorem HOk.laid (x : HOk P w H h) (k : ∀ b u, h.get? b = some u → h'.get? b = some u) (hp : h.objs.size ≤ a) (new : ObjOk P w (upd H a o) h' a o) : HOk P w (upd H a o) h' := fun b u e => by
  have hn := x.fresh hp
  by_cases hb : b = a
  · subst hb; rw [upd_same] at e; cases e; exact new
  · rw [upd_ne hb] at e
    exact (x b u e).stay (fun c v _ q => k c v q) (fun c q => by rw [upd_ne (ne_of_none q hn)]; exact q) fun c xs q => by rw [upd_ne (ne_of_none q hn)]; exact q
end
def Rd (H : Hp) (a : Addr) (u : HO) : Prop := H a = some u ∨ ∃ o, H a = some (.frz o u)
theorem Rd.of {H : Hp} {a : Addr} {u : HO} (h : H a = some u) : Rd H a u := .inl h
theorem Rd.ok {P : Program} {w : World} {H : Hp} {h : Heap} {a : Addr} {u : HO} (r : Rd H a u) (x : HOk P w H h) : ObjOk P w H h a u := by
  rcases r with r | ⟨o, r⟩
  · exact x a u r
  · obtain ⟨_, q⟩ := x a _ r
    exact q
def Mut : Option HO → Prop
  | some (.lst _) => True
  | some (.dK _) => True
  | some (.dT _) => True
  | some (.set _ _) => True
  | some (.ins _ _ _) => True
  | some (.ext _) => True
  | _ => False
section
variable {P : Program} {w : World} {H : Hp} {h h' : Heap} {x e : Addr} {o' : HO}
theorem HOk.write (ok : HOk P w H h) (mu : Mut (H x)) (he : e = x ∨ H e = some (.own x)) (k : ∀ b u, b ≠ e → h.get? b = some u → h'.get? b = some u) (heo : ∃ u, h'.get? e = some u)
    (new : ObjOk P w (upd H x o') h' x o') : HOk P w (upd H x o') h' := fun b u q => by
  have nown : ∀ c y, H c = some (.own y) → c ≠ x := fun c y r z => by subst z; rw [r] at mu; exact mu
  have ntup : ∀ c xs, H c = some (.tup xs) → c ≠ x := fun c xs r z => by subst z; rw [r] at mu; exact mu
  by_cases hb : b = x
  · subst hb; rw [upd_same] at q; cases q; exact new
  · rw [upd_ne hb] at q
    by_cases hbe : b = e
    · have q' : H b = some (.own x) := by
        rcases he with z | z
        · exact absurd (hbe.trans z) hb
        · rw [hbe]; exact z
      rw [q] at q'; cases q'
      obtain ⟨v, hv⟩ := heo
      exact ⟨v, by rw [hbe]; exact hv⟩
    · refine (ok b u q).stay (fun c v hc r => k c v ?_ r) (fun c r => by rw [upd_ne (nown c b r)]; exact r) fun c xs r => by rw [upd_ne (ntup c xs r)]; exact r
      rcases hc with rfl | hc
      · exact hbe
      · rintro rfl
        rcases he with z | z
        · exact nown c b hc z
        · rw [hc] at z; cases z; exact hb rfl
end
structure Un (fs ex : List Addr) (H H' : Hp) (h h' : Heap) : Prop where
  keep : ∀ b o, h.get? b = some o → H b = none → b ∉ fs → b ∉ ex → h'.get? b = some o
  slot : ∀ b o, h.get? b = some o → H b = none → b ∈ fs → b ∉ ex → ∃ sl, h'.get? b = some { o with slots := sl }
  free : ∀ b o, h.get? b = some o → H b = none → b ∉ ex → H' b = none
  there : ∀ b o, h.get? b = some o → b ∉ ex → ∃ o', h'.get? b = some o'
  tups : ∀ b xs, H b = some (.tup xs) → H' b = some (.tup xs)
  frzs : ∀ b o u, H b = some (.frz o u) → H' b = some (.frz o u)
  tbls : ∀ b ps, H b = some (.tbl ps) → ∃ more, H' b = some (.tbl (ps ++ more))
section
variable {fs fs' ex ex' : List Addr} {H H1 H2 : Hp} {h h1 h2 h' : Heap} {a x e : Addr} {o : HO}
theorem Un.any (u : Un fs ex H H1 h h1) {b : Addr} {ob : Obj} (q : h.get? b = some ob) (n : H b = none) (hx : b ∉ ex) : ∃ sl, h1.get? b = some { ob with slots := sl } := by
  by_cases hb : b ∈ fs
  · exact u.slot b ob q n hb hx
  · exact ⟨ob.slots, u.keep b ob q n hb hx⟩
theorem Un.trans (a : Un fs ex H H1 h h1) (b : Un fs ex H1 H2 h1 h2) : Un fs ex H H2 h h2 where
  keep := fun c ob q n hc hx => b.keep c ob (a.keep c ob q n hc hx) (a.free c ob q n hx) hc hx
  slot := fun c ob q n hc hx => by
    obtain ⟨sl, e1⟩ := a.slot c ob q n hc hx
    obtain ⟨sl', e2⟩ := b.slot c _ e1 (a.free c ob q n hx) hc hx
    exact ⟨sl', e2⟩
  free := fun c ob q n hx => by
    obtain ⟨o', e1⟩ := a.there c ob q hx
    exact b.free c o' e1 (a.free c ob q n hx) hx
  there := fun c ob q hx => by
    obtain ⟨o', e1⟩ := a.there c ob q hx
    exact b.there c o' e1 hx
  tups := fun c xs q => b.tups c xs (a.tups c xs q)
  frzs := fun c ob xs q => b.frzs c ob xs (a.frzs c ob xs q)
  tbls := fun c ps q => by
    obtain ⟨m1, e1⟩ := a.tbls c ps q
    obtain ⟨m2, e2⟩ := b.tbls c _ e1
    exact ⟨m1 ++ m2, by rw [e2, Array.append_assoc]⟩
theorem Un.kept (k : ∀ b u, h.get? b = some u → h'.get? b = some u) : Un fs ex H H h h' :=
  ⟨fun b ob q _ _ _ => k b ob q, fun b ob q _ _ _ => ⟨ob.slots, k b ob q⟩, fun _ _ _ n _ => n, fun b ob q _ => ⟨ob, k b ob q⟩, fun _ _ q => q, fun _ _ _ q => q, fun _ ps q => ⟨#[], by rw [q]; simp⟩⟩
theorem Un.refl : Un fs ex H H h h := Un.kept fun _ _ q => q
theorem Un.laid (k : ∀ b u, h.get? b = some u → h'.get? b = some u) (hp : h.objs.size ≤ a) (hn : H a = none) : Un fs ex H (upd H a o) h h' where
  keep := fun b u q _ _ _ => k b u q
  slot := fun b u q _ _ _ => ⟨u.slots, k b u q⟩
  free := fun b u q n _ => by rw [upd_ne (Nat.ne_of_lt (Nat.lt_of_lt_of_le (Heap.lt_size q) hp))]; exact n
  there := fun b u q _ => ⟨u, k b u q⟩
  tups := fun b xs q => by rw [upd_ne (ne_of_none q hn)]; exact q
  frzs := fun b u xs q => by rw [upd_ne (ne_of_none q hn)]; exact q
  tbls := fun b ps q => ⟨#[], by rw [upd_ne (ne_of_none q hn), q]; simp⟩
theorem Un.write (mu : Mut (H x)) (he : e = x ∨ H e = some (.own x)) (k : ∀ b u, b ≠ e → h.get? b = some u → h'.get? b = some u) (heo : ∃ u, h'.get? e = some u) : Un fs ex H (upd H x o) h h' := by
  have hx : ∀ b, H b = none → b ≠ x := fun b n z => by subst z; rw [n] at mu; exact mu
  have hb : ∀ b, H b = none → b ≠ e := fun b n z => by
    subst z
    rcases he with r | r
    · exact hx b n r
    · rw [n] at r; cases r
  have hm : ∀ b u, H b = some u → ¬ Mut (some u) → b ≠ x := fun b u q nm z => by subst z; rw [q] at mu; exact nm mu
  refine ⟨fun b u q n _ _ => k b u (hb b n) q, fun b u q n _ _ => ⟨u.slots, k b u (hb b n) q⟩, fun b u q n _ => by rw [upd_ne (hx b n)]; exact n, fun b u q _ => ?_,
    fun b xs q => by rw [upd_ne (hm b _ q fun z => z)]; exact q, fun b u xs q => by rw [upd_ne (hm b _ q fun z => z)]; exact q, fun b ps q => ⟨#[], by rw [upd_ne (hm b _ q fun z => z), q]; simp⟩⟩
  by_cases hbe : b = e
  · subst hbe; exact heo
  · exact ⟨u, k b u hbe q⟩
theorem Un.mono (u : Un fs ex H H1 h h1) (hs : ∀ b ∈ fs, b ∈ fs') (hx : ∀ b ∈ ex, b ∈ ex') : Un fs' ex' H H1 h h1 :=
  ⟨fun b ob q n hb he => u.keep b ob q n (fun z => hb (hs b z)) fun z => he (hx b z), fun _ _ q n _ he => u.any q n fun z => he (hx _ z), fun b ob q n he => u.free b ob q n fun z => he (hx b z), fun b ob q he => u.there b ob q fun z => he (hx b z), u.tups, u.frzs, u.tbls⟩
end
def trk (h : Heap) (H : Hp) : List Addr := (List.range h.objs.size).filter fun a => (H a).isSome
def hidT (h : Heap) (H : Hp) : Heap := PySem.W.hideAll h (trk h H)
theorem hidT_size (h : Heap) (H : Hp) : (hidT h H).objs.size = h.objs.size := PySem.W.hideAll_size _ _
theorem hidT_get {h : Heap} {H : Hp} {b : Addr} {o : Obj} (e : h.get? b = some o) (n : H b = none) : (hidT h H).get? b = some o :=
  PySem.W.hideAll_get _ e fun hm => by
    have q : (H b).isSome = true := (List.mem_filter.mp hm).2
    rw [n] at q; simp at q
theorem of_hidT {h : Heap} {H : Hp} {b : Addr} {o : Obj} (e : (hidT h H).get? b = some o) : h.get? b = some o ∧ H b = none := by
  have e' : h.get? b = some o := PySem.W.of_hideAll (trk h H) e
  refine ⟨e', ?_⟩
  cases q : H b with
  | none => rfl
  | some x =>
    have hm : b ∈ trk h H := List.mem_filter.mpr ⟨List.mem_range.mpr (Heap.lt_size e'), by simp [q]⟩
    have z : (hidT h H).get? b = none := PySem.W.hideAll_none (trk h H) hm
    rw [z] at e; cases e
def allNews (g h : Heap) (L : Addr) : List (Addr × Obj) := (List.range h.objs.size).filterMap fun a => if a = L ∨ (g.get? a).isSome = true then none else (h.get? a).map fun o => (a, o)
def rest (g h : Heap) (L d : Addr) : List (Addr × Obj) := (allNews g h L).filter fun p => decide (p.1 ≠ d)
end L2
namespace L2
open PySem PySem.Spec PyProof.Rows
structure Mod (K : PySem.W.Frag) (mg : Str → Option Value) (base : Heap) : Prop where
  kin : K.In base
  glob : base.Ns mainGlobals mg
  blt : ∃ mb, base.Ns builtinsNs mb ∧ ∀ x : Str, x ≠ "__name__" → mb x = bootBuiltins x
  nolimit : base.NoLimit
structure Cx where
  prog : Program
  w : World
  K : PySem.W.Frag
  mg : Str → Option Value
  base : Heap
  A : Around
  N : List Str
  s₀ : Shared
  H₀ : Hp
  env : Env
  outer : List Env
  stack : List Env
  ex : List Addr
  fn : Str → Bool
  calm : Bool
  pn : List (Addr × Obj)
  xe : Value → Shared → Prop
def frs (l : List Env) : List Addr := l.filterMap (·.frame)
abbrev Cx.fs (X : Cx) : List Addr := frs X.outer
def Vis (sc : Scope) (x : Str) : Prop := sc.names.lookup x = some .local ∨ sc.names.lookup x = some .cell ∨ sc.names.lookup x = some .free
def Loc (sc : Scope) (x : Str) : Prop := sc.names.lookup x = some .local ∨ sc.names.lookup x = some .cell
def Look (env : Env) (h : Heap) (m : Str → Option Value) (x : Str) (u : Value) : Prop :=
  (env.kindOf x = some .local ∧ m x = some u) ∨ ((env.kindOf x = some .cell ∨ env.kindOf x = some .free) ∧ ∃ c, env.cells.lookup x = some c ∧ h.IsCell c (some u))
structure Cx.Ok (X : Cx) : Prop where
  mod : Mod X.K X.mg X.base
  kind : X.env.scope.kind = .function
  glob : X.env.globals = mainGlobals
  blt : X.env.builtins = builtinsNs
  above : X.s₀.heap.objs.size ≤ X.env.locals
  inj : ∀ x y c, X.env.cells.lookup x = some c → X.env.cells.lookup y = some c → x = y
  has : ∀ x, (X.env.kindOf x = some .cell ∨ X.env.kindOf x = some .free) → ∃ c, X.env.cells.lookup x = some c
  cab : ∀ x c, X.fn x = true → X.env.cells.lookup x = some c → X.s₀.heap.objs.size ≤ c
  hd : X.calm = true → X.A.handled = none
  frames : X.A.frames = some X.stack
  stk : X.stack = X.outer ∨ (X.stack = X.env :: X.outer ∧ X.env.frame = some X.env.locals)
  exf : ∀ b ∈ X.ex, b ≠ X.env.locals ∧ ∀ x c, X.env.cells.lookup x = some c → c ≠ b
  bs : ∀ b o, X.base.get? b = some o → X.s₀.heap.get? b = some o ∧ X.H₀ b = none
  bsz : X.base.objs.size ≤ X.s₀.heap.objs.size
  noex : ∀ b o, X.base.get? b = some o → b ∉ X.ex
  exfs : ∀ b ∈ X.ex, b ∉ X.fs
  funs : X.s₀.heap.FunFrames X.base X.outer
  frf : ∀ b ∈ X.fs, X.H₀ b = none
structure Inv (X : Cx) (pins : List (Addr × Obj)) (σ : List (Option V)) (H : Hp) (s : Shared) : Prop where
  ok : X.Ok
  os : s.os = X.s₀.os
  bare : AllBare s.gens
  base : Un X.fs X.ex X.H₀ H X.s₀.heap s.heap
  loc : ∃ m, s.heap.Ns X.env.locals m ∧ ∀ (i : Nat) (x : Str) (v : V), X.N[i]? = some x → σ[i]? = some (some v) → Vis X.env.scope x → ∃ u, RelV v u ∧ Look X.env s.heap m x u
  cell : ∀ x c, X.env.cells.lookup x = some c → ∃ v, s.heap.IsCell c v
  free : H X.env.locals = none
  freeC : ∀ x c, X.env.cells.lookup x = some c → H c = none
  pin : ∀ p ∈ X.pn ++ pins, s.heap.get? p.1 = some p.2 ∧ H p.1 = none ∧ p.1 ≠ X.env.locals ∧ p.1 ∉ X.fs ∧ ∀ v, p.2.data ≠ .cell v
  hok : HOk X.prog X.w H s.heap
  len : σ.length = X.N.length
section
variable {X : Cx} {pins : List (Addr × Obj)} {σ : List (Option V)} {H H' : Hp} {s : Shared} {h' : Heap}
theorem Cx.Ok.nofr (ok : X.Ok) {b : Addr} {o : Obj} (e : X.base.get? b = some o) : b ∉ X.fs := fun hb => by
  have := (ok.funs.mem hb).1
  rw [e] at this; cases this
theorem Inv.bs (I : Inv X pins σ H s) : ∀ b o, X.base.get? b = some o → s.heap.get? b = some o ∧ H b = none := fun b o e =>
  ⟨I.base.keep b o (I.ok.bs b o e).1 (I.ok.bs b o e).2 (I.ok.nofr e) (I.ok.noex b o e), I.base.free b o (I.ok.bs b o e).1 (I.ok.bs b o e).2 (I.ok.noex b o e)⟩
theorem Inv.bk (I : Inv X pins σ H s) : ∀ b o, X.base.get? b = some o → s.heap.get? b = some o := fun b o e => (I.bs b o e).1
theorem Inv.mod (I : Inv X pins σ H s) : Mod X.K X.mg X.base := I.ok.mod
theorem Inv.kIn (I : Inv X pins σ H s) : X.K.In s.heap := I.ok.mod.kin.keeps I.bk
theorem Inv.nolimit (I : Inv X pins σ H s) : s.heap.NoLimit := I.ok.mod.nolimit.keeps I.bk
theorem Inv.fr (I : Inv X pins σ H s) : ∃ m, Fr X.base X.env.locals s.heap m :=
  let ⟨m, hn, _⟩ := I.loc
  ⟨m, hn, I.bk, Nat.le_trans I.ok.bsz I.ok.above⟩
theorem Inv.lt (I : Inv X pins σ H s) : X.env.locals < s.heap.objs.size := let ⟨_, hn, _⟩ := I.loc; hn.lt
theorem Inv.sz (I : Inv X pins σ H s) : X.s₀.heap.objs.size ≤ s.heap.objs.size := Nat.le_trans I.ok.above (Nat.le_of_lt I.lt)
theorem Inv.nofs (I : Inv X pins σ H s) {a : Addr} (h : s.heap.objs.size ≤ a) : a ∉ X.fs := fun hb => by
  obtain ⟨_, o, ho, _⟩ := I.ok.funs.mem hb
  exact absurd (Nat.lt_of_lt_of_le (Heap.lt_size ho) (Nat.le_trans I.sz h)) (Nat.lt_irrefl _)
theorem Inv.cne (I : Inv X pins σ H s) : ∀ x c, X.env.cells.lookup x = some c → c ≠ X.env.locals := fun x c e z => by
  obtain ⟨v, o, ho, hd⟩ := I.cell x c e
  obtain ⟨m, ⟨o', es, ep, ho', hd', _⟩, _⟩ := I.loc
  rw [z, ho'] at ho; cases ho; rw [hd'] at hd; cases hd
theorem Inv.funs (I : Inv X pins σ H s) : s.heap.FunFrames X.base X.outer := by
  have all : ∀ (l : List Env), (∀ b ∈ frs l, b ∈ X.fs) → X.s₀.heap.FunFrames X.base l → s.heap.FunFrames X.base l := by
    intro l
    induction l with
    | nil => intro _ _; trivial
    | cons env r ih =>
      intro hs hl
      obtain ⟨hk, ⟨L, o, hf, hn, ho, hd⟩, hr⟩ := hl
      have hL : L ∈ X.fs := hs L (by unfold frs; rw [List.filterMap_cons, hf]; exact List.mem_cons_self)
      obtain ⟨sl, e⟩ := I.base.slot L o ho (I.ok.frf L hL) hL fun z => I.ok.exfs L z hL
      exact ⟨hk, ⟨L, _, hf, hn, e, hd⟩, ih (fun b hb => hs b (by unfold frs; rw [List.filterMap_cons, hf]; exact List.mem_cons_of_mem _ hb)) hr⟩
  exact all X.outer (fun _ hb => hb) I.ok.funs
theorem Inv.stack (I : Inv X pins σ H s) : s.heap.FunFrames X.base X.stack := by
  rcases I.ok.stk with e | ⟨e, hf⟩
  · rw [e]; exact I.funs
  · rw [e]
    obtain ⟨m, hn, _⟩ := I.loc
    refine .cons (by rw [I.ok.kind]; decide) hf hn ?_ I.funs
    exact Heap.get?_none_of_le (Nat.le_trans I.ok.bsz I.ok.above)
theorem Inv.stkSub (I : Inv X pins σ H s) : ∀ b ∈ frs X.stack, b ∈ X.env.locals :: X.fs := fun b hb => by
  rcases I.ok.stk with e | ⟨e, hf⟩
  · rw [e] at hb; exact List.mem_cons_of_mem _ hb
  · rw [e] at hb
    unfold frs at hb
    rw [List.filterMap_cons, hf] at hb
    exact hb
theorem Inv.stkFree (I : Inv X pins σ H s) : ∀ b ∈ frs X.stack, H b = none := fun b hb => by
  rcases List.mem_cons.mp (I.stkSub b hb) with e | hb
  · rw [e]; exact I.free
  · obtain ⟨_, o, ho, _⟩ := I.ok.funs.mem hb
    exact I.base.free b o ho (I.ok.frf b hb) fun z => I.ok.exfs b z hb
theorem Inv.step {g' : Array GenState} {t' : Nat} {d' : Drawn} {ch : List Addr} (I : Inv X pins σ H s)
    (hch : ∀ b ∈ ch, (b ∈ X.ex ∨ X.s₀.heap.objs.size ≤ b) ∧ b ≠ X.env.locals ∧ (∀ x c, X.env.cells.lookup x = some c → c ≠ b) ∧ ∀ p ∈ X.pn ++ pins, p.1 ≠ b)
    (keep : ∀ b o, b ≠ X.env.locals → b ∉ X.fs → b ∉ ch → s.heap.get? b = some o → H b = none → h'.get? b = some o)
    (slot : ∀ b o, b ≠ X.env.locals → b ∈ X.fs → b ∉ ch → s.heap.get? b = some o → H b = none → ∃ sl, h'.get? b = some { o with slots := sl }) (free : ∀ b o, b ∉ ch → s.heap.get? b = some o → H b = none → H' b = none)
    (there : ∀ b o, b ∉ ch → s.heap.get? b = some o → ∃ o', h'.get? b = some o')
    (tups : ∀ b xs, H b = some (.tup xs) → H' b = some (.tup xs)) (frzs : ∀ b o u, H b = some (.frz o u) → H' b = some (.frz o u)) (tbls : ∀ b ps, H b = some (.tbl ps) → ∃ more, H' b = some (.tbl (ps ++ more)))
    (ns : ∀ m, s.heap.Ns X.env.locals m → h'.Ns X.env.locals m) (hok : HOk X.prog X.w H' h') (hg : AllBare g') :
    Inv X pins σ H' { s with heap := h', gens := g', drawn := d', toks := t' } := by
  have neL : ∀ b o, X.s₀.heap.get? b = some o → b ≠ X.env.locals := fun b o e => Nat.ne_of_lt (Nat.lt_of_lt_of_le (Heap.lt_size e) I.ok.above)
  have neC : ∀ b o, X.s₀.heap.get? b = some o → b ∉ X.ex → b ∉ ch := fun b o e hx hb => by
    rcases (hch b hb).1 with z | z
    · exact hx z
    · exact absurd (Nat.lt_of_lt_of_le (Heap.lt_size e) z) (Nat.lt_irrefl _)
  have cellK : ∀ x c, X.env.cells.lookup x = some c → ∀ v, s.heap.IsCell c v → h'.IsCell c v := fun x c e v ⟨o, ho, hd⟩ => by
    have nch : c ∉ ch := fun z => (hch c z).2.2.1 x c e rfl
    by_cases hc : c ∈ X.fs
    · obtain ⟨sl, q⟩ := slot c o (I.cne x c e) hc nch ho (I.freeC x c e)
      exact ⟨_, q, hd⟩
    · exact ⟨o, keep c o (I.cne x c e) hc nch ho (I.freeC x c e), hd⟩
  refine ⟨I.ok, I.os, hg, ⟨fun b o e n hb hx => ?_, fun b o e n hb hx => ?_, fun b o e n hx => ?_, fun b o e hx => ?_, fun b xs e => tups b xs (I.base.tups b xs e), fun b o xs e => frzs b o xs (I.base.frzs b o xs e), fun b ps e => ?_⟩, ?_, fun x c e => ?_, ?_, fun x c e => ?_, fun p hp => ?_, hok, I.len⟩
  · exact keep b o (neL b o e) hb (neC b o e hx) (I.base.keep b o e n hb hx) (I.base.free b o e n hx)
  · obtain ⟨sl, e1⟩ := I.base.slot b o e n hb hx
    obtain ⟨sl', e2⟩ := slot b _ (neL b o e) hb (neC b o e hx) e1 (I.base.free b o e n hx)
    exact ⟨sl', e2⟩
  · obtain ⟨o', e1⟩ := I.base.there b o e hx
    exact free b o' (neC b o e hx) e1 (I.base.free b o e n hx)
  · obtain ⟨o', e1⟩ := I.base.there b o e hx
    exact there b o' (neC b o e hx) e1
  · obtain ⟨m1, e1⟩ := I.base.tbls b ps e
    obtain ⟨m2, e2⟩ := tbls b _ e1
    exact ⟨m1 ++ m2, by rw [e2, Array.append_assoc]⟩
  · obtain ⟨m, hn, hl⟩ := I.loc
    refine ⟨m, ns m hn, fun i x v e1 e2 e3 => ?_⟩
    obtain ⟨u, r, l⟩ := hl i x v e1 e2 e3
    refine ⟨u, r, ?_⟩
    rcases l with l | ⟨k, c, e, z⟩
    · exact .inl l
    · exact .inr ⟨k, c, e, cellK x c e _ z⟩
  · obtain ⟨v, z⟩ := I.cell x c e
    exact ⟨v, cellK x c e v z⟩
  · obtain ⟨m, ⟨o, _, _, ho, _⟩, _⟩ := I.loc
    exact free _ o (fun z => (hch _ z).2.1 rfl) ho I.free
  · obtain ⟨v, o, ho, hd⟩ := I.cell x c e
    exact free c o (fun z => (hch c z).2.2.1 x c e rfl) ho (I.freeC x c e)
  · obtain ⟨e, n, ne, nf, d⟩ := I.pin p hp
    have nch : p.1 ∉ ch := fun z => (hch p.1 z).2.2.2 p hp rfl
    exact ⟨keep p.1 p.2 ne nf nch e n, free p.1 p.2 nch e n, ne, nf, d⟩
theorem Inv.un {t' : Nat} (I : Inv X pins σ H s) (u : Un X.fs [] H H' s.heap h') (hok : HOk X.prog X.w H' h') : Inv X pins σ H' { s with heap := h', toks := t' } := by
  obtain ⟨m, ⟨o, es, ep, ho, r⟩, _⟩ := id I.loc
  obtain ⟨sl, hL⟩ := u.any ho I.free (by simp)
  exact I.step (g' := s.gens) (d' := s.drawn) (ch := []) (fun _ z => nomatch z) (fun b o _ hb _ e n => u.keep b o e n hb (by simp)) (fun b o _ hb _ e n => u.slot b o e n hb (by simp)) (fun b o _ e n => u.free b o e n (by simp)) (fun b o _ e => u.there b o e (by simp)) u.tups u.frzs u.tbls (fun m' hm => by
    obtain ⟨o', es', ep', ho', r'⟩ := hm
    rw [ho] at ho'; cases ho'
    exact ⟨_, es', ep', hL, r'⟩) hok I.bare
theorem Inv.call {g' : Array GenState} {t' : Nat} {d' : Drawn} {ch : List Addr} (I : Inv X pins σ H s) (u : Un (frs X.stack) ch H H' s.heap h') (hok : HOk X.prog X.w H' h') (hg : AllBare g')
    (hch : ∀ b ∈ ch, (b ∈ X.ex ∨ X.s₀.heap.objs.size ≤ b) ∧ b ≠ X.env.locals ∧ (∀ x c, X.env.cells.lookup x = some c → c ≠ b) ∧ ∀ p ∈ X.pn ++ pins, p.1 ≠ b) :
    Inv X pins σ H' { s with heap := h', gens := g', drawn := d', toks := t' } := by
  obtain ⟨m, ⟨o, es, ep, ho, r⟩, _⟩ := id I.loc
  obtain ⟨sl, hL⟩ := u.any ho I.free fun z => (hch _ z).2.1 rfl
  exact I.step (ch := ch) hch (fun b o hL hb hc e n => u.keep b o e n (fun z => (List.mem_cons.mp (I.stkSub b z)).elim hL hb) hc) (fun b o _ _ hc e n => u.any e n hc) (fun b o hc e n => u.free b o e n hc) (fun b o hc e => u.there b o e hc) u.tups u.frzs u.tbls (fun m' hm => by
    obtain ⟨o', es', ep', ho', r'⟩ := hm
    rw [ho] at ho'; cases ho'
    exact ⟨_, es', ep', hL, r'⟩) hok hg
theorem Inv.turned {t' : Nat} {it : Addr} (I : Inv X pins σ H s) (k : ∀ b o, b ≠ it → s.heap.get? b = some o → h'.get? b = some o) (hn : H it = none) (hL : it ≠ X.env.locals)
    (h1 : it ∈ X.ex ∨ X.s₀.heap.objs.size ≤ it) (h2 : ∀ x c, X.env.cells.lookup x = some c → c ≠ it) (h3 : ∀ p ∈ X.pn ++ pins, p.1 ≠ it) : Inv X pins σ H { s with heap := h', toks := t' } := by
  have nit : ∀ b u, H b = some u → b ≠ it := fun b u e z => by rw [z, hn] at e; cases e
  refine I.step (g' := s.gens) (d' := s.drawn) (ch := [it]) (fun b hb => ?_) (fun b o _ _ hc e _ => k b o (fun z => hc (by simp [z])) e) (fun b o _ _ hc e _ => ⟨o.slots, k b o (fun z => hc (by simp [z])) e⟩) (fun _ _ _ _ n => n)
    (fun b o hc e => ⟨o, k b o (fun z => hc (by simp [z])) e⟩) (fun _ _ e => e) (fun _ _ _ e => e) (fun b ps e => ⟨#[], by rw [e]; simp⟩) (fun m hm => ?_) (fun b u e => ?_) I.bare
  · have e : b = it := by simpa using hb
    subst e
    exact ⟨h1, hL, h2, h3⟩
  · obtain ⟨o, es, ep, ho, r⟩ := hm
    exact ⟨o, es, ep, k _ o (Ne.symm hL) ho, r⟩
  · refine (I.hok b u e).stay (fun c v hc q => k c v ?_ q) (fun _ q => q) fun _ _ q => q
    rcases hc with z | z
    · rw [z]; exact nit b u e
    · exact nit c _ z
theorem Inv.tok (I : Inv X pins σ H s) (t : Nat) : Inv X pins σ H { s with toks := t } := I.un (h' := s.heap) (t' := t) Un.refl I.hok
theorem Inv.kept {t' : Nat} (I : Inv X pins σ H s) (k : ∀ b u, s.heap.get? b = some u → h'.get? b = some u) : Inv X pins σ H { s with heap := h', toks := t' } := I.un (Un.kept k) (I.hok.kept k)
theorem Inv.laid {a : Addr} {o : HO} {t' : Nat} (I : Inv X pins σ H s) (k : ∀ b u, s.heap.get? b = some u → h'.get? b = some u) (hp : s.heap.objs.size ≤ a) (new : ObjOk X.prog X.w (upd H a o) h' a o) :
    Inv X pins σ (upd H a o) { s with heap := h', toks := t' } := I.un (Un.laid k hp (I.hok.fresh hp)) (I.hok.laid k hp new)
theorem Inv.write {x e : Addr} {o : HO} {t' : Nat} (I : Inv X pins σ H s) (mu : Mut (H x)) (he : e = x ∨ H e = some (.own x)) (k : ∀ b u, b ≠ e → s.heap.get? b = some u → h'.get? b = some u) (heo : ∃ u, h'.get? e = some u)
    (new : ObjOk X.prog X.w (upd H x o) h' x o) : Inv X pins σ (upd H x o) { s with heap := h', toks := t' } := I.un (Un.write mu he k heo) (I.hok.write mu he k heo new)
theorem Inv.pins_of {pins' : List (Addr × Obj)} (I : Inv X pins σ H s) (h : ∀ p ∈ pins', s.heap.get? p.1 = some p.2 ∧ H p.1 = none ∧ p.1 ≠ X.env.locals ∧ p.1 ∉ X.fs ∧ ∀ v, p.2.data ≠ .cell v) : Inv X pins' σ H s :=
  ⟨I.ok, I.os, I.bare, I.base, I.loc, I.cell, I.free, I.freeC, fun p hp => (List.mem_append.mp hp).elim (fun z => I.pin p (List.mem_append_left _ z)) (h p), I.hok, I.len⟩
theorem nodup_ix {N : List Str} (hN : N.Nodup) {i j : Nat} {x : Str} (a : N[i]? = some x) (b : N[j]? = some x) : i = j := by
  obtain ⟨h1, e1⟩ := List.getElem?_eq_some_iff.mp a
  obtain ⟨h2, e2⟩ := List.getElem?_eq_some_iff.mp b
  exact (List.getElem_inj hN).mp (e1.trans e2.symm)
theorem store_ok2 {M : Model} {A : Around} {E : Value → Shared → Prop} {i : Nat} {x : Str} {v : V} {u : Value} {Q : Unit → Shared → Prop} (I : Inv X pins σ H s) (hN : X.N.Nodup) (hi : X.N[i]? = some x) (hx : Loc X.env.scope x) (r : RelV v u)
    (h : ∀ s', Inv X pins (σ.set i (some v)) H s' → (∃ a, Heap.SameBut a s.heap s'.heap ∧ (a = X.env.locals ∨ X.env.cells.lookup x = some a)) → Q () s') (hf : X.fn x = true ∨ X.env.scope.names.lookup x = some .local := by first | exact .inl rfl | exact .inr rfl | assumption) : wpAny M A (storeName X.env x u) Q E s := by
  obtain ⟨m, hn, hl⟩ := id I.loc
  have hcls : (X.env.scope.kind == .class || (X.env.scope.kind == .module && X.env.locals != X.env.globals)) = false := by rw [I.ok.kind]; rfl
  have hiσ : i < σ.length := by rw [I.len]; exact (List.getElem?_eq_some_iff.mp hi).1
  have cne := I.cne
  have tracked : ∀ {a : Addr} {h' : Heap}, (∃ o, s.heap.get? a = some o ∧ H a = none) → Heap.SameBut a s.heap h' → HOk X.prog X.w H h' := fun {a h'} ha hs b ob e => by
    obtain ⟨_, _, hfree⟩ := ha
    refine (I.hok b ob e).stay (fun c w' hc q => (hs.2 c ?_).trans q) (fun _ q => q) fun _ _ q => q
    rintro rfl
    rcases hc with rfl | hc
    · rw [hfree] at e; cases e
    · rw [hfree] at hc; cases hc
  rcases hx with hk | hk
  · refine wpAny_storeName_local hk hn (fun h' hn' hs => ?_) hcls
    obtain ⟨oL, _, _, hoL, _⟩ := id hn
    refine h _ ⟨I.ok, I.os, I.bare, ⟨fun b o e n hb hx => ?_, fun b o e n hb hx => ?_, I.base.free, fun b o e hx => ?_, I.base.tups, I.base.frzs, I.base.tbls⟩, ⟨_, hn', fun j y v' e1 e2 e3 => ?_⟩, fun y c e => ?_, I.free, I.freeC, fun p hp => ?_, tracked ⟨oL, hoL, I.free⟩ hs, by simpa using I.len⟩ ⟨_, hs, .inl rfl⟩
    · exact (hs.2 b (Nat.ne_of_lt (Nat.lt_of_lt_of_le (Heap.lt_size e) I.ok.above))).trans (I.base.keep b o e n hb hx)
    · obtain ⟨sl, e1⟩ := I.base.slot b o e n hb hx
      exact ⟨sl, (hs.2 b (Nat.ne_of_lt (Nat.lt_of_lt_of_le (Heap.lt_size e) I.ok.above))).trans e1⟩
    · obtain ⟨o', e1⟩ := I.base.there b o e hx
      exact ⟨o', (hs.2 b (Nat.ne_of_lt (Nat.lt_of_lt_of_le (Heap.lt_size e) I.ok.above))).trans e1⟩
    · by_cases hj : j = i
      · subst hj
        rw [hi] at e1; cases e1
        rw [List.getElem?_set_self hiσ] at e2
        cases e2
        exact ⟨u, r, .inl ⟨hk, by simp⟩⟩
      · rw [List.getElem?_set_ne (Ne.symm hj)] at e2
        obtain ⟨u', r', q⟩ := hl j y v' e1 e2 e3
        refine ⟨u', r', ?_⟩
        rcases q with ⟨k, e⟩ | ⟨k, c, e, z⟩
        · refine .inl ⟨k, ?_⟩
          have : y ≠ x := fun e => hj (nodup_ix hN e1 (e ▸ hi))
          simp [this, e]
        · exact .inr ⟨k, c, e, z.sameBut hs (cne y c e)⟩
    · obtain ⟨w', z⟩ := I.cell y c e
      exact ⟨w', z.sameBut hs (cne y c e)⟩
    · obtain ⟨e, n, ne, nf, d⟩ := I.pin p hp
      exact ⟨(hs.2 p.1 ne).trans e, n, ne, nf, d⟩
  · have hfn : X.fn x = true := by
      rcases hf with z | z
      · exact z
      · rw [z] at hk; cases hk
    obtain ⟨c, hc⟩ := I.ok.has x (.inl hk)
    obtain ⟨w', z⟩ := I.cell x c hc
    refine wpAny_storeName_cell I.ok.kind hk hc z (fun h' hc' hs => ?_)
    obtain ⟨oc, hoc, hocd⟩ := id z
    refine h { s with heap := h' } ⟨I.ok, I.os, I.bare, ⟨fun b o e n hb hx => ?_, fun b o e n hb hx => ?_, I.base.free, fun b o e hx => ?_, I.base.tups, I.base.frzs, I.base.tbls⟩, ⟨m, hn.sameBut hs (Ne.symm (cne x c hc)), fun j y v' e1 e2 e3 => ?_⟩, fun y c' e => ?_, I.free, I.freeC, fun p hp => ?_, tracked ⟨oc, hoc, I.freeC x c hc⟩ hs, by simpa using I.len⟩ ⟨c, hs, .inr hc⟩
    · exact (hs.2 b (Nat.ne_of_lt (Nat.lt_of_lt_of_le (Heap.lt_size e) (I.ok.cab x c hfn hc)))).trans (I.base.keep b o e n hb hx)
    · obtain ⟨sl, e1⟩ := I.base.slot b o e n hb hx
      exact ⟨sl, (hs.2 b (Nat.ne_of_lt (Nat.lt_of_lt_of_le (Heap.lt_size e) (I.ok.cab x c hfn hc)))).trans e1⟩
    · obtain ⟨o', e1⟩ := I.base.there b o e hx
      exact ⟨o', (hs.2 b (Nat.ne_of_lt (Nat.lt_of_lt_of_le (Heap.lt_size e) (I.ok.cab x c hfn hc)))).trans e1⟩
    · by_cases hj : j = i
      · subst hj
        rw [hi] at e1; cases e1
        rw [List.getElem?_set_self hiσ] at e2
        cases e2
        exact ⟨u, r, .inr ⟨.inl hk, c, hc, hc'⟩⟩
      · rw [List.getElem?_set_ne (Ne.symm hj)] at e2
        obtain ⟨u', r', q⟩ := hl j y v' e1 e2 e3
        refine ⟨u', r', ?_⟩
        rcases q with q | ⟨k, c', e, z'⟩
        · exact .inl q
        · refine .inr ⟨k, c', e, z'.sameBut hs ?_⟩
          rintro rfl
          exact hj (nodup_ix hN e1 (I.ok.inj _ _ _ e hc ▸ hi))
    · by_cases hcc : c' = c
      · subst hcc; exact ⟨_, hc'⟩
      · obtain ⟨w2, z2⟩ := I.cell y c' e
        exact ⟨w2, z2.sameBut hs hcc⟩
    · obtain ⟨e, n, ne, nf, d⟩ := I.pin p hp
      refine ⟨(hs.2 p.1 ?_).trans e, n, ne, nf, d⟩
      intro q
      rw [q, hoc] at e
      have q' : oc = p.2 := Option.some.inj e
      exact d w' (by rw [← q']; exact hocd)
theorem store_ok {M : Model} {A : Around} {E : Value → Shared → Prop} {i : Nat} {x : Str} {v : V} {u : Value} {Q : Unit → Shared → Prop} (I : Inv X pins σ H s) (hN : X.N.Nodup) (hi : X.N[i]? = some x) (hx : Loc X.env.scope x) (r : RelV v u)
    (h : ∀ s', Inv X pins (σ.set i (some v)) H s' → Q () s') (hf : X.fn x = true ∨ X.env.scope.names.lookup x = some .local := by first | exact .inl rfl | exact .inr rfl | assumption) : wpAny M A (storeName X.env x u) Q E s :=
  store_ok2 I hN hi hx r (fun s' I' _ => h s' I') hf
theorem Inv.call' {s' : Shared} {ch : List Addr} (I : Inv X pins σ H s) (ho : s'.os = s.os) (u : Un (frs X.stack) ch H H' s.heap s'.heap) (hok : HOk X.prog X.w H' s'.heap) (hg : AllBare s'.gens)
    (hch : ∀ b ∈ ch, (b ∈ X.ex ∨ X.s₀.heap.objs.size ≤ b) ∧ b ≠ X.env.locals ∧ (∀ x c, X.env.cells.lookup x = some c → c ≠ b) ∧ ∀ p ∈ X.pn ++ pins, p.1 ≠ b) : Inv X pins σ H' s' := by
  obtain ⟨h', g', d', t', o'⟩ := s'
  have e : o' = s.os := ho
  subst e
  exact I.call (g' := g') (t' := t') (d' := d') u hok hg hch
end
abbrev XK := Value → Option Addr → Hp → Prop
abbrev St := List (Option V)
abbrev VK := V → Hp → Prop
abbrev TE := St → Hp → VK → Prop
abbrev TT := St → Hp → (Bool → Hp → Prop) → Prop
abbrev TA := St → Hp → (List V → Hp → Prop) → Prop
structure Ends where
  nx : St → Hp → Prop
  rt : VK
  bk : St → Hp → Prop := fun _ _ => False
  ct : St → Hp → Prop := fun _ _ => False
abbrev TS := Ends → St → Hp → Prop
def EP (X : Cx) (pins : List (Addr × Obj)) (σ : St) (Q : VK) (u : Value) (s' : Shared) : Prop := ∃ v H', Inv X pins σ H' s' ∧ RelV v u ∧ Q v H'
def TP (X : Cx) (pins : List (Addr × Obj)) (σ : St) (Q : Bool → Hp → Prop) (b : Bool) (s' : Shared) : Prop := ∃ H', Inv X pins σ H' s' ∧ Q b H'
def AP (X : Cx) (pins : List (Addr × Obj)) (σ : St) (Q : List V → Hp → Prop) (us : List Value) (s' : Shared) : Prop := ∃ vs H', Inv X pins σ H' s' ∧ Vals vs us ∧ Q vs H'
def SP (X : Cx) (pins : List (Addr × Obj)) (D : Ends) (f : Flow) (s' : Shared) : Prop :=
  match f with
  | .next => ∃ σ' H', Inv X pins σ' H' s' ∧ D.nx σ' H'
  | .brk => ∃ σ' H', Inv X pins σ' H' s' ∧ D.bk σ' H'
  | .cont => ∃ σ' H', Inv X pins σ' H' s' ∧ D.ct σ' H'
  | .ret u => ∃ v σ' H', Inv X pins σ' H' s' ∧ RelV v u ∧ D.rt v H'
def PE (X : Cx) (e : Expr) (t : TE) : Prop :=
  ∀ (pins : List (Addr × Obj)) (s : Shared) (σ : St) (H : Hp) (Q : VK), Inv X pins σ H s → t σ H Q → wpAny (model X.prog X.w) X.A (eval e X.env) (EP X pins σ Q) X.xe s
def PT (X : Cx) (e : Expr) (t : TT) : Prop :=
  ∀ (pins : List (Addr × Obj)) (s : Shared) (σ : St) (H : Hp) (Q : Bool → Hp → Prop), Inv X pins σ H s → t σ H Q → wpAny (model X.prog X.w) X.A (isTrue e X.env (eval e X.env)) (TP X pins σ Q) X.xe s
def PW (X : Cx) (e : Expr) (t : TT) : Prop :=
  ∀ (whole : Sem Value) (pins : List (Addr × Obj)) (s : Shared) (σ : St) (H : Hp) (Q : Bool → Hp → Prop), Inv X pins σ H s → t σ H Q → wpAny (model X.prog X.w) X.A (isTrue e X.env whole) (TP X pins σ Q) X.xe s
theorem PW.pt {X : Cx} {e : Expr} {t : TT} (h : PW X e t) : PT X e t := h _
def PA (X : Cx) (es : List Expr) (t : TA) : Prop :=
  ∀ (pos : Pos) (pins : List (Addr × Obj)) (s : Shared) (σ : St) (H : Hp) (Q : List V → Hp → Prop), Inv X pins σ H s → t σ H Q → wpAny (model X.prog X.w) X.A (spliced (backTo pos (starEach es X.env))) (AP X pins σ Q) X.xe s
def PS (X : Cx) (st : Stmt) (t : TS) : Prop :=
  ∀ (pins : List (Addr × Obj)) (s : Shared) (σ : St) (H : Hp) (D : Ends), Inv X pins σ H s → t D σ H → wpAny (model X.prog X.w) X.A (exec st X.env) (SP X pins D) X.xe s
def PSs (X : Cx) (st : List Stmt) (t : TS) : Prop :=
  ∀ (pins : List (Addr × Obj)) (s : Shared) (σ : St) (H : Hp) (D : Ends), Inv X pins σ H s → t D σ H → wpAny (model X.prog X.w) X.A (execs st X.env) (SP X pins D) X.xe s
theorem thn {α : Type} {t : Sem α} {Q Q' : α → Shared → Prop} {M : Model} {A : Around} {E : Value → Shared → Prop} {s : Shared} (h : wpAny M A t Q E s) (hQ : ∀ a s, Q a s → Q' a s) : wpAny M A t Q' E s := wpAny_mono h hQ fun _ _ x => x
end L2
namespace L2
open PySem PySem.Spec PyProof.Rows
section
variable {X : Cx}
def tVar (i : Nat) : TE := fun σ H Q => ∃ v, σ[i]? = some (some v) ∧ Q v H
def tC (v : V) : TE := fun _ H Q => Q v H
theorem pe_var {i : Nat} {x : Str} {pos : Pos} (hN : X.N[i]? = some x) (hv : Vis X.env.scope x) (hd : (x == ("__debug__" : Str)) = false := by decide) (hcd : (x == ("__classdict__" : Str)) = false := by decide) : PE X (.Name x pos) (tVar i) := by
  intro pins s σ H Q I h
  obtain ⟨v, e, h⟩ := h
  obtain ⟨m, hn, hl⟩ := I.loc
  obtain ⟨u, r, l⟩ := hl i x v hN e hv
  have fin : EP X pins σ Q u s := ⟨v, H, I, r, h⟩
  rcases l with ⟨hk, hm⟩ | ⟨hk, c, hc, hcell⟩
  · exact wpAny_Name (wpAny_loadName_local I.ok.kind hk hn hm fin) hd
  · rcases hk with hk | hk
    · exact wpAny_Name (wpAny_loadName_cell I.ok.kind hk hc hcell fin) hd
    · exact wpAny_Name (wpAny_loadName_free I.ok.kind hk hc hcell fin hcd) hd
theorem pe_int {i j pos} : PE X (.Constant (.int i) j pos) (tC (.int i)) := fun _ _ _ H _ I h => wpAny_Constant_int ⟨.int i, H, I.tok _, ⟨_, rfl⟩, h⟩
theorem pe_bl {b j pos} : PE X (.Constant (.bool b) j pos) (tC (.bl b)) := fun _ _ _ H _ I h => Constant_bool ⟨.bl b, H, I, rfl, h⟩
theorem pe_non {j pos} : PE X (.Constant .none j pos) (tC .non) := fun _ _ _ H _ I h => Constant_none ⟨.non, H, I, rfl, h⟩
theorem pe_str {x j pos} : PE X (.Constant (.str x) j pos) (tC (.str x)) := fun _ _ _ H _ I h => Calls.Constant_str ⟨.str x, H, I.tok _, ⟨_, rfl⟩, h⟩
def Gl (X : Cx) (x : Str) : Prop := X.env.kindOf x = some .globalImplicit
theorem ld_glob {E : Value → Shared → Prop} {pins : List (Addr × Obj)} {s : Shared} {σ : St} {H : Hp} {x : Str} {u : Value} {pos : Pos} {Q : Value → Shared → Prop} (I : Inv X pins σ H s) (hg : Gl X x) (hm : X.mg x = some u) (h : Q u s)
    (hd : (x == ("__debug__" : Str)) = false := by decide) : wpAny (model X.prog X.w) X.A (eval (.Name x pos) X.env) Q E s :=
  Calls.Name_function_global I.ok.kind hg (Calls.loadGlobal_global (by rw [I.ok.glob]; exact I.mod.glob.keeps I.bk) hm h) hd
theorem ld_blt {E : Value → Shared → Prop} {pins : List (Addr × Obj)} {s : Shared} {σ : St} {H : Hp} {x : Str} {u : Value} {pos : Pos} {Q : Value → Shared → Prop} (I : Inv X pins σ H s) (hg : Gl X x) (hm : X.mg x = none) (hv : bootBuiltins x = some u) (h : Q u s)
    (hn : x ≠ "__name__" := by decide) (hd : (x == ("__debug__" : Str)) = false := by decide) : wpAny (model X.prog X.w) X.A (eval (.Name x pos) X.env) Q E s := by
  obtain ⟨mb, h1, h2⟩ := I.mod.blt
  exact Calls.Name_function_global I.ok.kind hg (Calls.loadGlobal_builtin (by rw [I.ok.glob]; exact I.mod.glob.keeps I.bk) hm (by rw [I.ok.blt]; exact h1.keeps I.bk) ((h2 x hn).trans hv) h) hd
theorem pe_glob {x : Str} {v : V} {u : Value} {pos : Pos} (hg : Gl X x) (hm : X.mg x = some u) (r : RelV v u) (hd : (x == ("__debug__" : Str)) = false := by decide) : PE X (.Name x pos) (tC v) :=
  fun _ _ _ H _ I h => ld_glob I hg hm ⟨v, H, I, r, h⟩ hd
theorem pe_bltn {x : Str} {v : V} {u : Value} {pos : Pos} (hg : Gl X x) (hm : X.mg x = none) (hv : bootBuiltins x = some u) (r : RelV v u) (hn : x ≠ "__name__" := by decide) (hd : (x == ("__debug__" : Str)) = false := by decide) : PE X (.Name x pos) (tC v) :=
  fun _ _ _ H _ I h => ld_blt I hg hm hv ⟨v, H, I, r, h⟩ hn hd
variable {a b : Expr} {ta tb : TE} {pos : Pos}
def PC (X : Cx) (op : CmpOp) (a b : Expr) (t : TE) : Prop :=
  ∀ (pins : List (Addr × Obj)) (s : Shared) (σ : St) (H : Hp) (Q : VK), Inv X pins σ H s → t σ H Q →
    wpAny (model X.prog X.w) X.A (eval a X.env) (fun v s₁ => wpAny (model X.prog X.w) X.A (eval b X.env) (fun u s₂ => wpAny (model X.prog X.w) X.A (compareOp op v u) (EP X pins σ Q) X.xe s₂) X.xe s₁) X.xe s
theorem nobehind (b : Expr) {op : CmpOp} (h : op ≠ .In) (h2 : op ≠ .NotIn) : behindInMarks op b = false := by
  have e1 : (op == CmpOp.In) = false := by cases op <;> first | rfl | exact absurd rfl h
  have e2 : (op == CmpOp.NotIn) = false := by cases op <;> first | rfl | exact absurd rfl h2
  cases b <;> simp [behindInMarks, e1, e2]
def tIsN (ta : TE) : TE := fun σ H Q => ta σ H fun x H1 => Q (.bl (decide (x = .non))) H1
def tNotN (ta : TE) : TE := fun σ H Q => ta σ H fun x H1 => Q (.bl (!decide (x = .non))) H1
theorem RelV.none_iff {x : V} {v : Value} (r : RelV x v) : (v == Value.none) = decide (x = .non) := by
  cases x with
  | non => cases r; rfl
  | bl _ => cases r; rfl
  | int _ => obtain ⟨t, rfl⟩ := r; rfl
  | str _ => obtain ⟨t, rfl⟩ := r; rfl
  | byt _ => obtain ⟨t, rfl⟩ := r; rfl
  | flt _ => obtain ⟨t, rfl⟩ := r; rfl
  | ref _ => cases r; rfl
  | ty _ => cases r; rfl
theorem pc_isN {j pos'} (ha : PE X a ta) : PC X .Is a (.Constant .none j pos') (tIsN ta) := by
  intro pins s σ H Q I h
  refine thn (ha pins s σ H _ I h) fun v s1 ⟨x, H1, I1, r1, q1⟩ => ?_
  exact Constant_none (is_none_gen ⟨.bl _, H1, I1, by rw [r1.none_iff]; rfl, q1⟩)
theorem pc_notN {j pos'} (ha : PE X a ta) : PC X .IsNot a (.Constant .none j pos') (tNotN ta) := by
  intro pins s σ H Q I h
  refine thn (ha pins s σ H _ I h) fun v s1 ⟨x, H1, I1, r1, q1⟩ => ?_
  exact Constant_none (isnot_none_gen ⟨.bl _, H1, I1, by rw [r1.none_iff]; rfl, q1⟩)
def tB (t : TE) : TT := fun σ H Q => t σ H fun x H1 => ∃ c, x = .bl c ∧ Q c H1
theorem pt_cmp {op : CmpOp} {t : TE} (h : PC X op a b t) (h1 : behindInMarks op b = false := by first | exact nobehind _ (by decide) (by decide) | rfl) : PT X (.Compare a [op] [b] pos) (tB t) := by
  intro pins s σ H Q I hw
  refine wpAny_isTrue_Compare1 (thn (h pins s σ H _ I hw) fun v s1 h1 => thn h1 fun u s2 h2 => thn h2 fun c s3 ⟨x, H1, I1, r1, q1⟩ => ?_) h1
  obtain ⟨d, rfl, q⟩ := q1
  cases r1
  exact wpAny_truthy_bool ⟨H1, I1, q⟩
theorem pt_val {e : Expr} {t : TE} (h : PE X e t) (he : ∀ whole, isTrue e X.env whole = (do let v ← whole; standAt e.pos; holding [v] (truthy v)) := by intro _; rfl) : PT X e (tB t) := by
  intro pins s σ H Q I hw
  refine isTrue_plain (thn (h pins s σ H _ I hw) fun v s1 ⟨x, H1, I1, r1, q1⟩ => ?_) (he _)
  obtain ⟨d, rfl, q⟩ := q1
  cases r1
  exact wpAny_truthy_bool ⟨H1, I1, q⟩
variable {tA tB' : TT} {rest : List Expr}
def tAnd (t u : TT) : TT := fun σ H Q => t σ H fun c H1 => if c = true then u σ H1 Q else Q false H1
def tOr (t u : TT) : TT := fun σ H Q => t σ H fun c H1 => if c = true then Q true H1 else u σ H1 Q
def tNot (t : TT) : TT := fun σ H Q => t σ H fun c H1 => Q (!c) H1
theorem pw_and1 (ha : PT X a tA) : PW X (.BoolOp .And [a] pos) tA := by
  intro wh pins s σ H Q I h
  refine isTrue_and (thn (ha pins s σ H Q I h) fun c s1 e => ?_)
  cases c with
  | true => exact isTrue_and_nil e
  | false => exact e
theorem pw_or1 (ha : PT X a tA) : PW X (.BoolOp .Or [a] pos) tA := by
  intro wh pins s σ H Q I h
  refine isTrue_or (thn (ha pins s σ H Q I h) fun c s1 e => ?_)
  cases c with
  | false => exact isTrue_or_nil e
  | true => exact e
theorem pw_and (ha : PT X a tA) (hb : PW X (.BoolOp .And (b :: rest) pos) tB') : PW X (.BoolOp .And (a :: b :: rest) pos) (tAnd tA tB') := by
  intro wh pins s σ H Q I h
  refine isTrue_and (thn (ha pins s σ H _ I h) fun c s1 ⟨H1, I1, q1⟩ => ?_)
  cases c with
  | true => exact hb wh pins s1 σ H1 Q I1 q1
  | false => exact ⟨H1, I1, q1⟩
theorem pw_or (ha : PT X a tA) (hb : PW X (.BoolOp .Or (b :: rest) pos) tB') : PW X (.BoolOp .Or (a :: b :: rest) pos) (tOr tA tB') := by
  intro wh pins s σ H Q I h
  refine isTrue_or (thn (ha pins s σ H _ I h) fun c s1 ⟨H1, I1, q1⟩ => ?_)
  cases c with
  | true => exact ⟨H1, I1, q1⟩
  | false => exact hb wh pins s1 σ H1 Q I1 q1
theorem pt_not (ha : PT X a tA) : PT X (.UnaryOp .Not a pos) (tNot tA) := by
  intro pins s σ H Q I h
  exact isTrue_not (ha pins s σ H (fun c H1 => Q (!c) H1) I h)
def tAndV (ta tb : TE) : TE := fun σ H Q => ta σ H fun x H1 => ∃ c, x = .bl c ∧ if c = true then tb σ H1 Q else Q (.bl false) H1
def tOrV (ta tb : TE) : TE := fun σ H Q => ta σ H fun x H1 => ∃ c, x = .bl c ∧ if c = true then Q (.bl true) H1 else tb σ H1 Q
def tNotV (ta : TE) : TE := fun σ H Q => ta σ H fun x H1 => ∃ c, x = .bl c ∧ Q (.bl (!c)) H1
theorem pe_one {op} {t : TE} (h : PE X a t) : PE X (.BoolOp op [a] pos) t := fun pins s σ H Q I hw => BoolOp_one (h pins s σ H Q I hw)
theorem pe_and (ha : PE X a ta) (hb : PE X (.BoolOp .And (b :: rest) pos) tb) : PE X (.BoolOp .And (a :: b :: rest) pos) (tAndV ta tb) := by
  intro pins s σ H Q I h
  refine BoolOp_and (thn (ha pins s σ H _ I h) fun v s1 ⟨x, H1, I1, r1, q1⟩ => ?_)
  obtain ⟨c, rfl, q1⟩ := q1
  cases r1
  refine wpAny_truthy_bool ?_
  cases c with
  | true => exact hb pins s1 σ H1 Q I1 q1
  | false => exact ⟨.bl false, H1, I1, rfl, q1⟩
theorem pe_not (ha : PE X a ta) : PE X (.UnaryOp .Not a pos) (tNotV ta) := by
  intro pins s σ H Q I h
  refine UnaryOp_ (thn (ha pins s σ H _ I h) fun v s1 ⟨x, H1, I1, r1, q1⟩ => ?_)
  obtain ⟨c, rfl, q1⟩ := q1
  cases r1
  exact not_of (wpAny_truthy_bool ⟨.bl (!c), H1, I1, rfl, q1⟩)
def tIf (t : TT) (ta tb : TE) : TE := fun σ H Q => t σ H fun c H1 => if c = true then ta σ H1 Q else tb σ H1 Q
theorem pe_ifExp {c : Expr} (hc : PT X c tA) (ha : PE X a ta) (hb : PE X b tb) : PE X (.IfExp c a b pos) (tIf tA ta tb) := by
  intro pins s σ H Q I h
  refine wpAny_IfExp (thn (hc pins s σ H _ I h) fun d s1 ⟨H1, I1, q1⟩ => ?_)
  cases d with
  | true => exact ha pins s1 σ H1 Q I1 q1
  | false => exact hb pins s1 σ H1 Q I1 q1
end
end L2
namespace L2
open PySem PySem.Spec PyProof.Rows
def SqL (K : PySem.W.Frag) (H : Hp) (a : Addr) (xs : List V) : Prop :=
  Rd H a (.lst xs) ∨
    ∃ (o : Obj) (its : Array Value) (n : Nat), K.lookup a = some o ∧ o.cls = .type "list" ∧ o.dict = none ∧ o.data = .seq its n ∧ its.size ≤ sizeLine ∧ Vals xs its.toList
def SqT (K : PySem.W.Frag) (H : Hp) (a : Addr) (xs : List V) : Prop :=
  Rd H a (.tup xs) ∨
    ∃ (o : Obj) (its : Array Value) (n : Nat), K.lookup a = some o ∧ o.cls = .type "tuple" ∧ o.data = .seq its n ∧ its.size ≤ sizeLine ∧ Vals xs its.toList
def absV : Value → Option V
  | .none => some .non
  | .bool b => some (.bl b)
  | .int i _ => some (.int i)
  | .str x _ => some (.str x)
  | .bytes b _ => some (.byt b)
  | .float b _ => some (.flt b)
  | .ref a => some (.ref a)
  | .type n => some (.ty n)
  | _ => none
theorem RelV.abs {x : V} {u : Value} (r : RelV x u) : absV u = some x := by
  cases x with
  | non => cases r; rfl
  | bl _ => cases r; rfl
  | int _ => obtain ⟨t, rfl⟩ := r; rfl
  | str _ => obtain ⟨t, rfl⟩ := r; rfl
  | byt _ => obtain ⟨t, rfl⟩ := r; rfl
  | flt _ => obtain ⟨t, rfl⟩ := r; rfl
  | ref _ => cases r; rfl
  | ty _ => cases r; rfl
theorem RelV.inj {x y : V} {u : Value} (r : RelV x u) (q : RelV y u) : x = y := Option.some.inj (r.abs.symm.trans q.abs)
theorem Vals.inj : ∀ {xs ys : List V} {us : List Value}, Vals xs us → Vals ys us → xs = ys
  | _, _, _, .nil, .nil => rfl
  | _, _, _, .cons r t, .cons r' t' => by rw [r.inj r', Vals.inj t t']
section
variable {X : Cx} {pins : List (Addr × Obj)} {σ : St} {H : Hp} {s : Shared} {a : Addr} {xs ys : List V}
theorem SqL.of {K : PySem.W.Frag} (h : H a = some (.lst xs)) : SqL K H a xs := .inl (.inl h)
theorem SqT.of {K : PySem.W.Frag} (h : H a = some (.tup xs)) : SqT K H a xs := .inl (.inl h)
theorem Inv.list (I : Inv X pins σ H s) (h : SqL X.K H a xs) : ∃ its : List Value, Vals xs its ∧ PlainL s.heap a its.toArray ∧ xs.length ≤ sizeLine := by
  rcases h with h | ⟨o, its, n, hk, hc, hd, hs, hz, r⟩
  · obtain ⟨z, its, n, r, e⟩ := h.ok I.hok
    exact ⟨its, r, ⟨_, n, e, rfl, rfl, rfl⟩, z⟩
  · refine ⟨its.toList, r, ⟨o, n, I.kIn a o hk, hc, hd, by simpa using hs⟩, ?_⟩
    have e := r.length
    simp only [Array.length_toList] at e
    omega
theorem Inv.tuple (I : Inv X pins σ H s) (h : SqT X.K H a xs) : ∃ its : List Value, Vals xs its ∧ IsTup s.heap a its.toArray ∧ xs.length ≤ sizeLine := by
  rcases h with h | ⟨o, its, n, hk, hc, hs, hz, r⟩
  · obtain ⟨z, its, r, p⟩ := h.ok I.hok
    exact ⟨its, r, p, z⟩
  · refine ⟨its.toList, r, ⟨o, I.kIn a o hk, hc, n, by simpa using hs⟩, ?_⟩
    have e := r.length
    simp only [Array.length_toList] at e
    omega
theorem Inv.list_inj (I : Inv X pins σ H s) (h : SqL X.K H a xs) (h' : SqL X.K H a ys) : xs = ys := by
  obtain ⟨its, r, ⟨o, n, e, _, _, d⟩, _⟩ := I.list h
  obtain ⟨its', r', ⟨o', n', e', _, _, d'⟩, _⟩ := I.list h'
  rw [e] at e'; cases e'
  rw [d] at d'
  injection d' with d1 _
  have : its = its' := by simpa using congrArg Array.toList d1
  subst this
  exact r.inj r'
theorem Inv.tuple_inj (I : Inv X pins σ H s) (h : SqT X.K H a xs) (h' : SqT X.K H a ys) : xs = ys := by
  obtain ⟨its, r, ⟨o, e, _, n, d⟩, _⟩ := I.tuple h
  obtain ⟨its', r', ⟨o', e', _, n', d'⟩, _⟩ := I.tuple h'
  rw [e] at e'; cases e'
  rw [d] at d'
  injection d' with d1 _
  have : its = its' := by simpa using congrArg Array.toList d1
  subst this
  exact r.inj r'
end
abbrev Cx.wish (X : Cx) (E : Value → Shared → Prop) : Cx := { X with xe := E }
abbrev Cx.nox (X : Cx) : Cx := X.wish fun _ _ => False
theorem Cx.Ok.wish {X : Cx} (ok : X.Ok) (E : Value → Shared → Prop) : (X.wish E).Ok :=
  ⟨ok.mod, ok.kind, ok.glob, ok.blt, ok.above, ok.inj, ok.has, ok.cab, ok.hd, ok.frames, ok.stk, ok.exf, ok.bs, ok.bsz, ok.noex, ok.exfs, ok.funs, ok.frf⟩
theorem Cx.Ok.unwish {X : Cx} {E : Value → Shared → Prop} (ok : (X.wish E).Ok) : X.Ok :=
  ⟨ok.mod, ok.kind, ok.glob, ok.blt, ok.above, ok.inj, ok.has, ok.cab, ok.hd, ok.frames, ok.stk, ok.exf, ok.bs, ok.bsz, ok.noex, ok.exfs, ok.funs, ok.frf⟩
section
variable {X : Cx} {pins : List (Addr × Obj)} {σ : St} {H : Hp} {s : Shared} {E : Value → Shared → Prop}
theorem Inv.wish (I : Inv X pins σ H s) (E : Value → Shared → Prop) : Inv (X.wish E) pins σ H s := ⟨I.ok.wish E, I.os, I.bare, I.base, I.loc, I.cell, I.free, I.freeC, I.pin, I.hok, I.len⟩
theorem Inv.unwish (I : Inv (X.wish E) pins σ H s) : Inv X pins σ H s := ⟨I.ok.unwish, I.os, I.bare, I.base, I.loc, I.cell, I.free, I.freeC, I.pin, I.hok, I.len⟩
theorem SP.unwish {D : Ends} {f : Flow} {s' : Shared} (h : SP (X.wish E) pins D f s') : SP X pins D f s' := by
  cases f with
  | next => obtain ⟨σ', H', I, q⟩ := h; exact ⟨σ', H', I.unwish, q⟩
  | brk => obtain ⟨σ', H', I, q⟩ := h; exact ⟨σ', H', I.unwish, q⟩
  | cont => obtain ⟨σ', H', I, q⟩ := h; exact ⟨σ', H', I.unwish, q⟩
  | ret u => obtain ⟨v, σ', H', I, r, q⟩ := h; exact ⟨v, σ', H', I.unwish, r, q⟩
theorem PE.nox {e : Expr} {t : TE} (h : PE X.nox e t) : PE X e t := fun pins s σ H Q I hw =>
  wpAny_mono (h pins s σ H Q (I.wish _) hw) (fun _ _ ⟨v, H', I', r, q⟩ => ⟨v, H', I'.unwish, r, q⟩) fun _ _ z => False.elim z
theorem PT.nox {e : Expr} {t : TT} (h : PT X.nox e t) : PT X e t := fun pins s σ H Q I hw =>
  wpAny_mono (h pins s σ H Q (I.wish _) hw) (fun _ _ ⟨H', I', q⟩ => ⟨H', I'.unwish, q⟩) fun _ _ z => False.elim z
theorem PSs.nox {st : List Stmt} {t : TS} (h : PSs X.nox st t) : PSs X st t := fun pins s σ H D I hw =>
  wpAny_mono (h pins s σ H D (I.wish _) hw) (fun _ _ q => q.unwish) fun _ _ z => False.elim z
end
section
variable {X : Cx} {st : Stmt} {rest : List Stmt} {t u : TS} {e : Expr} {te : TE} {pos : Pos}
def tNext : TS := fun D σ H => D.nx σ H
def tSeq (t u : TS) : TS := fun D σ H => t { D with nx := u D } σ H
theorem pss_nil : PSs X [] tNext := fun _ _ σ H _ I h => wpAny_execs_nil ⟨σ, H, I, h⟩
theorem pss_cons (h1 : PS X st t) (h2 : PSs X rest u) : PSs X (st :: rest) (tSeq t u) := by
  intro pins s σ H D I h
  refine wpAny_execs_cons (thn (h1 pins s σ H { D with nx := u D } I h) fun f s1 q => ?_)
  cases f with
  | next =>
    obtain ⟨σ', H', I', q⟩ := q
    exact h2 pins s1 σ' H' D I' q
  | ret v => exact q
  | brk => exact q
  | cont => exact q
theorem pss_one (h1 : PS X st t) : PSs X [st] t := by
  intro pins s σ H D I h
  refine wpAny_execs_cons (thn (h1 pins s σ H D I h) fun f s1 q => ?_)
  cases f with
  | next => exact wpAny_execs_nil q
  | ret v => exact q
  | brk => exact q
  | cont => exact q
def tBreak : TS := fun D σ H => D.bk σ H
theorem ps_break : PS X (.Break pos) tBreak := fun _ _ σ H _ I h => wpAny_Break ⟨σ, H, I, h⟩
theorem Inv.quiet {pins : List (Addr × Obj)} {σ : St} {H : Hp} {s : Shared} (I : Inv X pins σ H s) : interactive X.env = false := by simp [interactive, I.ok.kind]
def tDrop (te : TE) : TS := fun D σ H => te σ H fun _ H1 => D.nx σ H1
theorem ps_expr (he : PE X e te) (hs : swapsWith e none pos.line X.env = pure false := by rfl) : PS X (.Expr e pos) (tDrop te) := by
  intro pins s σ H D I h
  exact wpAny_Expr_any (thn (he pins s σ H _ I h) fun v s1 ⟨x, H1, I1, r1, q1⟩ => ⟨σ, H1, I1, q1⟩) I.quiet hs
def tRet (te : TE) : TS := fun D σ H => te σ H D.rt
theorem ps_ret (he : PE X e te) : PS X (.Return (some e) pos) (tRet te) := by
  intro pins s σ H D I h
  exact wpAny_Return_some (thn (he pins s σ H _ I h) fun v s1 ⟨x, H1, I1, r1, q1⟩ => ⟨x, σ, H1, I1, r1, q1⟩)
def tRetN : TS := fun D _ H => D.rt .non H
def tIfS (c : TT) (t u : TS) : TS := fun D σ H => c σ H fun b H1 => if b = true then t D σ H1 else u D σ H1
theorem ps_if {c : Expr} {a b : List Stmt} {tc : TT} (hc : PT X c tc) (ha : PSs X a t) (hb : PSs X b u) : PS X (.If c a b pos) (tIfS tc t u) := by
  intro pins s σ H D I h
  refine wpAny_If (thn (hc pins s σ H _ I h) fun d s1 ⟨H1, I1, q1⟩ => ?_)
  cases d with
  | true => exact ha pins s1 σ H1 D I1 q1
  | false => exact hb pins s1 σ H1 D I1 q1
def tNever : TS := fun _ _ _ => False
theorem ps_never : PS X st tNever := fun _ _ _ _ _ _ h => h.elim
theorem pss_never {sts : List Stmt} : PSs X sts tNever := fun _ _ _ _ _ _ h => h.elim
end
abbrev TG := V → St → Hp → (St → Hp → Prop) → Prop
abbrev TGs := List V → St → Hp → (St → Hp → Prop) → Prop
def PG (X : Cx) (target : Expr) (t : TG) : Prop :=
  ∀ (pins : List (Addr × Obj)) (s : Shared) (σ : St) (H : Hp) (v : V) (u : Value) (Q : St → Hp → Prop), Inv X pins σ H s → RelV v u → t v σ H Q →
    wpAny (model X.prog X.w) X.A (assign target X.env u) (fun _ s' => ∃ σ' H', Inv X pins σ' H' s' ∧ Q σ' H') X.xe s
def PGs (X : Cx) (ts : List Expr) (t : TGs) : Prop :=
  ∀ (pins : List (Addr × Obj)) (s : Shared) (σ : St) (H : Hp) (vs : List V) (us : List Value) (Q : St → Hp → Prop), Inv X pins σ H s → Vals vs us → t vs σ H Q →
    wpAny (model X.prog X.w) X.A (assignInOrder ((assignEach ts X.env).map (·.2)) us) (fun _ s' => ∃ σ' H', Inv X pins σ' H' s' ∧ Q σ' H') X.xe s
section
variable {X : Cx} {pos : Pos}
def gName (i : Nat) : TG := fun v σ H Q => Q (σ.set i (some v)) H
theorem pg_name {i : Nat} {x : Str} (hN : X.N.Nodup) (hi : X.N[i]? = some x) (hx : Loc X.env.scope x) (hf : X.fn x = true ∨ X.env.scope.names.lookup x = some .local := by first | exact .inl rfl | exact .inr rfl | assumption) : PG X (.Name x pos) (gName i) := by
  intro pins s σ H v u Q I r h
  exact wpAny_assign_Name (store_ok I hN hi hx r (fun s' I' => ⟨_, H, I', h⟩) hf)
def gNil : TGs := fun vs σ H Q => vs = [] ∧ Q σ H
def gCons (t : TG) (u : TGs) : TGs := fun vs σ H Q => ∃ v r, vs = v :: r ∧ t v σ H fun σ' H' => u r σ' H' Q
theorem pgs_nil : PGs X [] gNil := by
  intro pins s σ H vs us Q I r h
  obtain ⟨e, h⟩ := h
  subst e
  cases r
  exact assignInOrder_nil ⟨σ, H, I, h⟩
theorem pgs_cons {e : Expr} {es : List Expr} {t : TG} {u : TGs} (h1 : PG X e t) (h2 : PGs X es u)
    (hs : (assignEach (e :: es) X.env).map (·.2) = assign e X.env :: (assignEach es X.env).map (·.2) := by rfl) : PGs X (e :: es) (gCons t u) := by
  intro pins s σ H vs us Q I r h
  obtain ⟨v, vr, e1, h⟩ := h
  subst e1
  cases r with
  | cons r rr =>
    rw [hs]
    refine assignInOrder_cons (thn (h1 pins s σ H _ _ _ I r h) fun _ s1 ⟨σ1, H1, I1, q1⟩ => ?_)
    exact h2 pins s1 σ1 H1 _ _ Q I1 rr q1
def gTup (K : PySem.W.Frag) (n : Nat) (t : TGs) : TG := fun v σ H Q => ∃ a xs, v = .ref a ∧ SqT K H a xs ∧ xs.length = n ∧ t xs σ H Q
theorem pg_tup {es : List Expr} {k : Nat} {t : TGs} {n : Nat} (hc : X.calm = true) (h : PGs X es t)
    (hn : (assignEach es X.env).length = n := by rfl) (hst : (assignEach es X.env).findIdx? (·.1) = none := by rfl) : PG X (.Tuple es k pos) (gTup X.K n t) := by
  intro pins s σ H v u Q I r hw
  obtain ⟨a, xs, e1, hq, hl, hw⟩ := hw
  subst e1
  cases r
  obtain ⟨its, rv, ht, hz⟩ := I.tuple hq
  refine assign_Tuple_tuple (I.ok.hd hc) ht (by simp [hn, ← hl, rv.length]) hst fun h' hx => ?_
  have I1 : Inv X pins σ H { s with heap := h' } := I.kept (t' := s.toks) fun b o e => hx b o (Nat.ne_of_lt (Heap.lt_size e)) e
  exact h pins _ σ H xs _ Q I1 (by simpa using rv) hw
def tAsg (te : TE) (g : TG) : TS := fun D σ H => te σ H fun x H1 => g x σ H1 D.nx
theorem ps_set {i : Nat} {x : Str} {e : Expr} {te : TE} {pos' : Pos} (hN : X.N.Nodup) (hi : X.N[i]? = some x) (hx : Loc X.env.scope x) (he : PE X e te) (hs : swapsWith e (some (.Name x pos')) pos.line X.env = pure false := by rfl) (hf : X.fn x = true ∨ X.env.scope.names.lookup x = some .local := by first | exact .inl rfl | exact .inr rfl | assumption) :
    PS X (.Assign [.Name x pos'] e pos) (tAsg te (gName i)) := by
  intro pins s σ H D I h
  refine wpAny_Assign_Name (thn (he pins s σ H _ I h) fun v s1 ⟨y, H1, I1, r1, q1⟩ => ?_) hs
  exact store_ok I1 hN hi hx r1 (fun s2 I2 => ⟨_, H1, I2, q1⟩) hf
end
section
variable {X : Cx} {pos : Pos}
def tWhile (c : TT) (tb : TS) : TS := fun D σ H => ∃ W : Nat → St → Hp → Prop, (∃ m, W m σ H) ∧ ∀ m σ H, W m σ H →
  c σ H fun b H1 => if b = true then ∃ N : St → Hp → Prop, (∀ σ' H', N σ' H' → ∃ m', m' < m ∧ W m' σ' H') ∧ tb { D with nx := N, ct := N, bk := D.nx } σ H1 else D.nx σ H1
theorem ps_while {c : Expr} {body : List Stmt} {tc : TT} {tb : TS} (hp : PassesOwn (model X.prog X.w) X.A X.env X.xe) (hc : PT X c tc) (hb : PSs X body tb) : PS X (.While c body [] pos) (tWhile tc tb) := by
  intro pins s σ H D I h
  obtain ⟨W, ⟨m0, w0⟩, turn⟩ := h
  refine wpAny_While (codeAny_whileLoop (fun n s' => ∃ σ' H', Inv X pins σ' H' s' ∧ W n σ' H') ?_ m0 ⟨σ, H, I, w0⟩)
  rintro n s1 ⟨σ1, H1, I1, w1⟩
  refine wpAny_passesOwn hp (thn (hc pins s1 σ1 H1 _ I1 (turn n σ1 H1 w1)) fun b s2 ⟨H2, I2, q2⟩ => ?_)
  cases b with
  | true =>
    obtain ⟨N, hN, q2⟩ := q2
    rw [if_pos rfl]
    refine wpAny_passesOwn hp (thn (hb pins s2 σ1 H2 _ I2 q2) fun f s3 q3 => ?_)
    cases f with
    | next =>
      obtain ⟨σ3, H3, I3, n3⟩ := q3
      obtain ⟨m', hm, w3⟩ := hN σ3 H3 n3
      exact ⟨m', hm, σ3, H3, I3, w3⟩
    | cont =>
      obtain ⟨σ3, H3, I3, n3⟩ := q3
      obtain ⟨m', hm, w3⟩ := hN σ3 H3 n3
      exact ⟨m', hm, σ3, H3, I3, w3⟩
    | brk => exact q3
    | ret v => exact q3
  | false =>
    rw [if_neg Bool.false_ne_true]
    exact wpAny_execs_nil ⟨σ1, H2, I2, q2⟩
end
structure It where
  go : Nat → Hp → Prop
  yld : Nat → Hp → V → Hp → Prop
  stop : Nat → Hp → Prop
def FpOk (X : Cx) (pins : List (Addr × Obj)) (H : Hp) (b : Addr) : Prop :=
  H b = none ∧ b ≠ X.env.locals ∧ b ∉ X.fs ∧ (b ∈ X.ex ∨ X.s₀.heap.objs.size ≤ b) ∧ (∀ x c, X.env.cells.lookup x = some c → c ≠ b) ∧ ∀ p ∈ X.pn ++ pins, p.1 ≠ b
theorem Inv.fpOk {X : Cx} {pins : List (Addr × Obj)} {σ : St} {H H' : Hp} {s : Shared} {b : Addr} (I : Inv X pins σ H s) (hb : s.heap.objs.size ≤ b) (hn : H' b = none) : FpOk X pins H' b := by
  refine ⟨hn, Nat.ne_of_gt (Nat.lt_of_lt_of_le I.lt hb), I.nofs hb, .inr (Nat.le_trans I.sz hb), fun x c e z => ?_, fun p hp z => ?_⟩
  · obtain ⟨v, q⟩ := I.cell x c e
    exact absurd (Nat.lt_of_lt_of_le q.lt (by rw [z]; exact hb)) (Nat.lt_irrefl _)
  · exact absurd (Nat.lt_of_lt_of_le (Heap.lt_size (I.pin p hp).1) (by rw [z]; exact hb)) (Nat.lt_irrefl _)
structure Turn (P : Program) (w : World) (K : PySem.W.Frag) (tg : Expr) (J : It) (fp : List Addr) (it : Addr) (tn : Nat → Heap → Prop) : Prop where
  mem : it ∈ fp
  obj : ∀ i h, tn i h → ∀ b ∈ fp, ∃ o, h.get? b = some o ∧ ∀ v, o.data ≠ .cell v
  keep : ∀ i h h', tn i h → (∀ b ∈ fp, ∀ o, h.get? b = some o → h'.get? b = some o) → tn i h'
  item : ∀ (X : Cx), X.prog = P → X.w = w → X.K = K → X.calm = true → ∀ (i : Nat) (pins : List (Addr × Obj)) (s : Shared) (σ : St) (H : Hp) (E : Value → Shared → Prop), Inv X pins σ H s → (∀ b ∈ fp, FpOk X pins H b) → tn i s.heap → J.go i H →
    wpAny (model P w) X.A (pyNext (.ref it)) (fun r s1 => ∃ u, r = some u ∧
      wpAny (model P w) X.A (letOwnedTupleGo tg (.ref it) u) (fun _ s2 => ∃ x H', Inv X pins σ H' s2 ∧ RelV x u ∧ J.yld i H x H' ∧ tn (i + 1) s2.heap ∧ ∀ b ∈ fp, H' b = none) E s1) E s
  done : ∀ (X : Cx), X.prog = P → X.w = w → X.K = K → X.calm = true → ∀ (i : Nat) (pins : List (Addr × Obj)) (s : Shared) (σ : St) (H : Hp) (E : Value → Shared → Prop), Inv X pins σ H s → (∀ b ∈ fp, FpOk X pins H b) → tn i s.heap → J.stop i H →
    wpAny (model P w) X.A (pyNext (.ref it)) (fun r s1 => r = none ∧ Inv X pins σ H s1) E s
  self : ∀ (A : Around) (i : Nat) (s : Shared) (Q : Value → Shared → Prop) (E : Value → Shared → Prop), tn i s.heap → Q (.ref it) s → wpAny (model P w) A (pyIter (.ref it)) Q E s
abbrev TI := St → Hp → (It → Hp → Prop) → Prop
def PIE (X : Cx) (pins : List (Addr × Obj)) (σ : St) (tg : Expr) (R : It → Hp → Prop) (itv : Value) (s2 : Shared) : Prop :=
  ∃ (it : Addr) (fp : List Addr) (tn : Nat → Heap → Prop) (J : It) (H' : Hp), itv = .ref it ∧ Inv X pins σ H' s2 ∧ Turn X.prog X.w X.K tg J fp it tn ∧ tn 0 s2.heap ∧ (∀ b ∈ fp, FpOk X pins H' b) ∧ R J H'
def PI (X : Cx) (tg iter : Expr) (wi : TI) : Prop :=
  ∀ (pins : List (Addr × Obj)) (s : Shared) (σ : St) (H : Hp) (R : It → Hp → Prop), Inv X pins σ H s → wi σ H R →
    wpAny (model X.prog X.w) X.A (eval iter X.env) (fun v s1 => wpAny (model X.prog X.w) X.A (pyIter v) (PIE X pins σ tg R) X.xe s1) X.xe s
theorem go_of {M : Model} {A : Around} {E : Value → Shared → Prop} {s : Shared} {tg : Expr} {it : Addr} {u : Value} {o : Obj} {n : String} {vs : Array Value} {Q : Unit → Shared → Prop} (ho : s.heap.get? it = some o) (hc : o.cls = .type n) (hd : o.data = .fields vs)
    (hn : ["enumerate", "zip", "dict_itemiterator", "dict_reverseitemiterator", "odict_iterator", "itertools.zip_longest", "itertools.pairwise"].contains n = false) (hQ : Q () s) : wpAny M A (letOwnedTupleGo tg (.ref it) u) Q E s := by
  unfold letOwnedTupleGo
  cases tg <;> first
    | exact wpAny_pure hQ
    | (cases u <;> first
        | exact wpAny_pure hQ
        | (refine wpAny_bind (wpAny_load ho ?_)
           rw [hc, hd]
           show wpAny M A (if (["enumerate", "zip", "dict_itemiterator", "dict_reverseitemiterator", "odict_iterator", "itertools.zip_longest", "itertools.pairwise"].contains n && vs[0]? == some (rawInt _)) = true then _ else _) Q E s
           rw [if_neg (by intro h; rw [hn, Bool.false_and] at h; cases h)]
           exact wpAny_pure hQ))
def Itl (K : PySem.W.Frag) (a : Addr) : It :=
  ⟨fun i H => ∃ xs x, SqL K H a xs ∧ xs[i]? = some x, fun i H x H' => H' = H ∧ ∀ xs, SqL K H a xs → xs[i]? = some x, fun i H => ∃ xs, SqL K H a xs ∧ xs.length ≤ i⟩
def Itt (K : PySem.W.Frag) (a : Addr) : It :=
  ⟨fun i H => ∃ xs x, SqT K H a xs ∧ xs[i]? = some x, fun i H x H' => H' = H ∧ ∀ xs, SqT K H a xs → xs[i]? = some x, fun i H => ∃ xs, SqT K H a xs ∧ xs.length ≤ i⟩
def Itr (lo : Int) (n : Nat) : It := ⟨fun i _ => i < n, fun i H x H' => H' = H ∧ x = .int (lo + i), fun i _ => n ≤ i⟩
theorem turn_list {P : Program} {w : World} {K : PySem.W.Frag} {tg : Expr} (a it : Addr) : Turn P w K tg (Itl K a) [it] it (fun i h => h.IsListIter it a i) where
  mem := by simp
  obj := fun i h st b hb => by
    have e : b = it := by simpa using hb
    subst e
    obtain ⟨o, e, c, d⟩ := st
    exact ⟨o, e, fun v z => by rw [d] at z; cases z⟩
  keep := fun i h h' st k => st.at fun o e => k it (by simp) o e
  item := by
    intro X hP hw hK hc i pins s σ H E I hf st hg
    subst hP hw hK
    obtain ⟨xs, x, hq, hx⟩ := hg
    obtain ⟨its, rv, p, hz⟩ := I.list hq
    obtain ⟨u, hu, ru⟩ := rv.get hx
    obtain ⟨f0, f1, f2, f3, f4, f5⟩ := hf it (by simp)
    refine wpAny_pyNext_list_item st p.isList (x := u) (by simpa using hu) fun h' st' sb => ?_
    have I1 : Inv X pins σ H { s with heap := h' } := I.turned (t' := s.toks) (fun b o hb e => (sb.2 b hb).trans e) f0 f1 f3 f4 f5
    obtain ⟨o, e, c, d⟩ := id st'
    exact ⟨u, rfl, go_of (s := { s with heap := h' }) e c d (by decide) ⟨x, H, I1, ru, ⟨rfl, fun ys hy => by rw [I.list_inj hy hq]; exact hx⟩, st', fun b hb => (hf b hb).1⟩⟩
  done := by
    intro X hP hw hK hc i pins s σ H E I hf st hg
    subst hP hw hK
    obtain ⟨xs, hq, hx⟩ := hg
    obtain ⟨its, rv, p, hz⟩ := I.list hq
    obtain ⟨f0, f1, f2, f3, f4, f5⟩ := hf it (by simp)
    have hl := rv.length
    exact wpAny_pyNext_list_end (I.ok.hd hc) st p.isList (by simp; omega) fun h' eb => ⟨rfl, I.turned (t' := s.toks) (fun b o hb e => eb b o hb e) f0 f1 f3 f4 f5⟩
  self := fun _ _ _ _ _ st h => wpAny_pyIter_listiter st h
theorem turn_tuple {P : Program} {w : World} {K : PySem.W.Frag} {tg : Expr} (a it : Addr) : Turn P w K tg (Itt K a) [it] it (fun i h => h.IsTupleIter it a i) where
  mem := by simp
  obj := fun i h st b hb => by
    have e : b = it := by simpa using hb
    subst e
    obtain ⟨o, e, c, d⟩ := st
    exact ⟨o, e, fun v z => by rw [d] at z; cases z⟩
  keep := fun i h h' st k => st.at fun o e => k it (by simp) o e
  item := by
    intro X hP hw hK hc i pins s σ H E I hf st hg
    subst hP hw hK
    obtain ⟨xs, x, hq, hx⟩ := hg
    obtain ⟨its, rv, p, hz⟩ := I.tuple hq
    obtain ⟨u, hu, ru⟩ := rv.get hx
    obtain ⟨f0, f1, f2, f3, f4, f5⟩ := hf it (by simp)
    refine wpAny_pyNext_tuple_item st (show s.heap.IsTuple a its.toArray from p) (x := u) (by simpa using hu) fun h' st' sb => ?_
    have I1 : Inv X pins σ H { s with heap := h' } := I.turned (t' := s.toks) (fun b o hb e => (sb.2 b hb).trans e) f0 f1 f3 f4 f5
    obtain ⟨o, e, c, d⟩ := id st'
    exact ⟨u, rfl, go_of (s := { s with heap := h' }) e c d (by decide) ⟨x, H, I1, ru, ⟨rfl, fun ys hy => by rw [I.tuple_inj hy hq]; exact hx⟩, st', fun b hb => (hf b hb).1⟩⟩
  done := by
    intro X hP hw hK hc i pins s σ H E I hf st hg
    subst hP hw hK
    obtain ⟨xs, hq, hx⟩ := hg
    obtain ⟨its, rv, p, hz⟩ := I.tuple hq
    obtain ⟨f0, f1, f2, f3, f4, f5⟩ := hf it (by simp)
    have hl := rv.length
    exact wpAny_pyNext_tuple_end (I.ok.hd hc) st (show s.heap.IsTuple a its.toArray from p) (by simp; omega) fun h' eb => ⟨rfl, I.turned (t' := s.toks) (fun b o hb e => eb b o hb e) f0 f1 f3 f4 f5⟩
  self := fun _ _ _ _ _ st h => wpAny_pyIter_tupleiter st h
theorem turn_range {P : Program} {w : World} {K : PySem.W.Frag} {tg : Expr} (it : Addr) (lo : Int) (n : Nat) : Turn P w K tg (Itr lo n) [it] it (fun i h => IsRangeIter h it (lo + (i : Nat) * 1) ((n : Int) - (i : Nat)) 1) where
  mem := by simp
  obj := fun i h st b hb => by
    have e : b = it := by simpa using hb
    subst e
    exact ⟨_, st, fun v z => by
      have z' : Data.fields _ = Data.cell v := z
      cases z'⟩
  keep := fun i h h' st k => k it (by simp) _ st
  item := by
    intro X hP hw hK hc i pins s σ H E I hf st hg
    subst hP hw hK
    obtain ⟨f0, f1, f2, f3, f4, f5⟩ := hf it (by simp)
    have W := Walks.range (prog := X.prog) (w := X.w) (I.ok.hd hc) it lo 1 n
    refine W.item i s _ _ hg st fun v h' tk hv st' kk => ?_
    obtain ⟨t, rfl⟩ := hv
    have I1 : Inv X pins σ H { s with heap := h', toks := tk } := I.turned (fun b o hb e => kk b o (by simpa using hb) e) f0 f1 f3 f4 f5
    refine ⟨_, rfl, go_of (s := { s with heap := h', toks := tk }) (n := "range_iterator") st' rfl rfl (by decide) ⟨.int (lo + i), H, I1, ⟨t, ?_⟩, ⟨rfl, rfl⟩, st', fun b hb => (hf b hb).1⟩⟩
    rw [Int.mul_one]
  done := by
    intro X hP hw hK hc i pins s σ H E I hf st hg
    subst hP hw hK
    obtain ⟨f0, f1, f2, f3, f4, f5⟩ := hf it (by simp)
    exact wpAny_pyNext_range_end (I.ok.hd hc) st (by have : n ≤ i := hg; omega) fun h' eb => ⟨rfl, I.turned (t' := s.toks) (fun b o hb e => eb b o hb e) f0 f1 f3 f4 f5⟩
  self := fun _ _ _ _ _ st h => wpAny_pyIter_rangeiter st h
end L2
namespace L2
open PySem PySem.Spec PyProof.Rows
section
variable {X : Cx} {tg : Expr}
def iList (K : PySem.W.Frag) (tl : TE) : TI := fun σ H R => tl σ H fun x H1 => ∃ a, x = .ref a ∧ (∃ xs, SqL K H1 a xs) ∧ R (Itl K a) H1
def iTup (K : PySem.W.Frag) (tl : TE) : TI := fun σ H R => tl σ H fun x H1 => ∃ a, x = .ref a ∧ (∃ xs, SqT K H1 a xs) ∧ R (Itt K a) H1
theorem pi_list {l : Expr} {tl : TE} (hl : PE X l tl) : PI X tg l (iList X.K tl) := by
  intro pins s σ H R I h
  refine thn (hl pins s σ H _ I h) fun v s1 ⟨x, H1, I1, r1, q1⟩ => ?_
  obtain ⟨a, e, ⟨xs, hq⟩, q⟩ := q1
  subst e
  cases r1
  obtain ⟨its, rv, p, hz⟩ := I1.list hq
  refine wpAny_pyIter_list p.isList ?_
  refine ⟨s1.heap.objs.size, [s1.heap.objs.size], _, _, H1, rfl, I1.kept (t' := s1.toks) fun b o e => Heap.get?_push_of_some _ e, turn_list a _, ⟨_, Heap.get?_push_size _ rfl, rfl, rfl⟩, fun b hb => ?_, q⟩
  have e : b = s1.heap.objs.size := by simpa using hb
  subst e
  exact I1.fpOk (Nat.le_refl _) (I1.hok.fresh (Nat.le_refl _))
theorem pi_tup {l : Expr} {tl : TE} (hl : PE X l tl) : PI X tg l (iTup X.K tl) := by
  intro pins s σ H R I h
  refine thn (hl pins s σ H _ I h) fun v s1 ⟨x, H1, I1, r1, q1⟩ => ?_
  obtain ⟨a, e, ⟨xs, hq⟩, q⟩ := q1
  subst e
  cases r1
  obtain ⟨its, rv, p, hz⟩ := I1.tuple hq
  refine wpAny_pyIter_tuple (show s1.heap.IsTuple a its.toArray from p) ?_
  refine ⟨s1.heap.objs.size, [s1.heap.objs.size], _, _, H1, rfl, I1.kept (t' := s1.toks) fun b o e => Heap.get?_push_of_some _ e, turn_tuple a _, ⟨_, Heap.get?_push_size _ rfl, rfl, rfl⟩, fun b hb => ?_, q⟩
  have e : b = s1.heap.objs.size := by simpa using hb
  subst e
  exact I1.fpOk (Nat.le_refl _) (I1.hok.fresh (Nat.le_refl _))
theorem range_it {pins : List (Addr × Obj)} {σ : St} {H : Hp} {s : Shared} {R : It → Hp → Prop} {E : Value → Shared → Prop} {lo hi : Int} {t u v : Tok} {tk : Nat} (I : Inv X pins σ H s) (h1 : -(2 ^ 62) ≤ lo) (h2 : lo < 2 ^ 62) (h3 : -(2 ^ 62) ≤ hi) (h4 : hi < 2 ^ 62)
    (q : R (Itr lo (hi - lo).toNat) H) : wpAny (model X.prog X.w) X.A (pyIter (.ref s.heap.objs.size)) (PIE X pins σ tg R) E { s with heap := s.heap.push { cls := .type "range", data := .fields #[.int lo t, .int hi u, .int 1 v] }, toks := tk } := by
  refine wpAny_pyIter_range (IsRange.new ..) (small_one h1 h2 h3 h4) ?_
  have I1 : Inv X pins σ H { s with heap := s.heap.push { cls := .type "range", data := .fields #[.int lo t, .int hi u, .int 1 v] }, toks := tk } := I.kept fun b o e => Heap.get?_push_of_some _ e
  refine ⟨(s.heap.push { cls := .type "range", data := .fields #[.int lo t, .int hi u, .int 1 v] }).objs.size, [(s.heap.push { cls := .type "range", data := .fields #[.int lo t, .int hi u, .int 1 v] }).objs.size], _, _, H, rfl,
    I1.kept (t' := tk) fun b o e => Heap.get?_push_of_some _ e, turn_range _ lo (hi - lo).toNat, ?_, fun b hb => ?_, q⟩
  · have e1 : lo + ((0 : Nat) : Int) * 1 = lo := by simp
    have e2 : (((hi - lo).toNat : Nat) : Int) - ((0 : Nat) : Int) = Builtin.Range.rangeSize lo hi 1 := by rw [rangeSize_one]; split <;> omega
    show IsRangeIter _ _ (lo + ((0 : Nat) : Int) * 1) ((((hi - lo).toNat : Nat) : Int) - ((0 : Nat) : Int)) 1
    rw [e1, e2]
    exact Heap.get?_push_size _ rfl
  · have e : b = (s.heap.push { cls := .type "range", data := .fields #[.int lo t, .int hi u, .int 1 v] }).objs.size := by simpa using hb
    subst e
    exact I1.fpOk (Nat.le_refl _) (I1.hok.fresh (Nat.le_refl _))
def iRng1 (ta : TA) : TI := fun σ H R => ta σ H fun vs H1 => ∃ j : Int, vs = [.int j] ∧ -(2 ^ 62) ≤ j ∧ j < 2 ^ 62 ∧ R (Itr 0 j.toNat) H1
def iRng2 (ta : TA) : TI := fun σ H R => ta σ H fun vs H1 => ∃ i j : Int, vs = [.int i, .int j] ∧ (-(2 ^ 62) ≤ i ∧ i < 2 ^ 62 ∧ -(2 ^ 62) ≤ j ∧ j < 2 ^ 62) ∧ R (Itr i (j - i).toNat) H1
theorem pi_range1 {a : Expr} {ta : TA} {p pos : Pos} (hg : Gl X "range") (hm : X.mg "range" = none) (ha : PA X [a] ta) (hs : starEach [a] X.env = [(false, eval a X.env)] := by rfl) : PI X tg (.Call (.Name "range" p) [a] [] pos) (iRng1 ta) := by
  intro pins s σ H R I h
  refine Call_ (ld_blt I hg hm boot_range (PyProof.Rows.callWith_type1 (thn (ha pos pins s σ H _ I h) fun us s1 ⟨vs, H1, I1, r1, q1⟩ => ?_) hs rfl))
  obtain ⟨j, e, q1, q2, q⟩ := q1
  subst e
  cases r1 with
  | cons r rr =>
    cases rr
    obtain ⟨t, rfl⟩ := r
    exact call_range_1 (range_it I1 (by omega) (by omega) q1 q2 (by simpa using q))
theorem pi_range2 {a b : Expr} {ta : TA} {p pos : Pos} (hg : Gl X "range") (hm : X.mg "range" = none) (ha : PA X [a, b] ta) (hs : starEach [a, b] X.env = [(false, eval a X.env), (false, eval b X.env)] := by rfl) (hs2 : starEach [b] X.env = [(false, eval b X.env)] := by rfl) :
    PI X tg (.Call (.Name "range" p) [a, b] [] pos) (iRng2 ta) := by
  intro pins s σ H R I h
  refine Call_ (ld_blt I hg hm boot_range (PyProof.Rows.callWith_type1 (thn (ha pos pins s σ H _ I h) fun us s1 ⟨vs, H1, I1, r1, q1⟩ => ?_) (by rw [hs, hs2]) (by rw [hs2]; rfl)))
  obtain ⟨i, j, e, ⟨q1, q2, q3, q4⟩, q⟩ := q1
  subst e
  cases r1 with
  | cons r rr =>
    cases rr with
    | cons r' rr =>
      cases rr
      obtain ⟨t, rfl⟩ := r
      obtain ⟨t', rfl⟩ := r'
      exact call_range_2 (range_it I1 q1 q2 q3 q4 q)
def tFor (wi : TI) (g : TG) (tb : TS) : TS := fun D σ H => wi σ H fun J H1 => ∃ W : Nat → Nat → St → Hp → Prop, (∃ m, W 0 m σ H1) ∧ ∀ i m σ H, W i m σ H →
  (J.stop i H ∧ D.nx σ H) ∨ (J.go i H ∧ ∃ N : St → Hp → Prop, (∀ σ' H', N σ' H' → ∃ m', m' < m ∧ W (i + 1) m' σ' H') ∧ ∀ x H', J.yld i H x H' → g x σ H' fun σ2 H2 => tb { D with nx := N, ct := N, bk := D.nx } σ2 H2)
def pinsAt (fp : List Addr) (h : Heap) : List (Addr × Obj) := fp.filterMap fun b => (h.get? b).map fun o => (b, o)
theorem mem_pinsAt {fp : List Addr} {h : Heap} {b : Addr} {o : Obj} (hb : b ∈ fp) (e : h.get? b = some o) : (b, o) ∈ pinsAt fp h := List.mem_filterMap.mpr ⟨b, hb, by rw [e]; rfl⟩
theorem of_pinsAt {fp : List Addr} {h : Heap} {p : Addr × Obj} (hp : p ∈ pinsAt fp h) : p.1 ∈ fp ∧ h.get? p.1 = some p.2 := by
  obtain ⟨b, hb, e⟩ := List.mem_filterMap.mp hp
  cases q : h.get? b with
  | none => rw [q] at e; cases e
  | some o =>
    rw [q] at e
    have e' : (b, o) = p := Option.some.inj e
    subst e'
    exact ⟨hb, q⟩
theorem Inv.pinned {pins : List (Addr × Obj)} {σ : St} {H : Hp} {s : Shared} {fp : List Addr} (I : Inv X pins σ H s) (hf : ∀ b ∈ fp, FpOk X pins H b) (ho : ∀ b ∈ fp, ∃ o, s.heap.get? b = some o ∧ ∀ v, o.data ≠ .cell v) : Inv X (pins ++ pinsAt fp s.heap) σ H s :=
  I.pins_of fun p hp => (List.mem_append.mp hp).elim (fun z => I.pin p (List.mem_append_right _ z)) fun z => by
    obtain ⟨hb, e⟩ := of_pinsAt z
    obtain ⟨f0, f1, f2, _⟩ := hf p.1 hb
    obtain ⟨o, e', d⟩ := ho p.1 hb
    rw [e] at e'; cases e'
    exact ⟨e, f0, f1, f2, d⟩
theorem Inv.unpinned {pins pl : List (Addr × Obj)} {σ : St} {H : Hp} {s : Shared} (I : Inv X (pins ++ pl) σ H s) : Inv X pins σ H s := I.pins_of fun p hp => I.pin p (List.mem_append_right _ (List.mem_append_left _ hp))
theorem ps_for {iter : Expr} {body : List Stmt} {wi : TI} {g : TG} {tb : TS} {pos : Pos} (hp : PassesOwn (model X.prog X.w) X.A X.env X.xe) (hc : X.calm = true) (hi : PI X tg iter wi) (hg : PG X tg g) (hb : PSs X body tb)
    (hs : ∀ x, foldedSetIterable iter X.env x = pure x := by intro _; rfl) : PS X (.For tg iter body [] pos) (tFor wi g tb) := by
  intro pins s σ H D I h
  refine wpAny_For (thn (hi pins s σ H _ I h) fun v s1 h1 => thn h1 fun itv s2 h2 => ?_) hs
  obtain ⟨it, fp, tn, J, H2, e, I2, T, st2, f2, W, ⟨m0, w0⟩, turn⟩ := h2
  subst e
  have stat : ∀ {H' : Hp}, (∀ b ∈ fp, H' b = none) → ∀ b ∈ fp, FpOk X pins H' b := fun hn b hb => ⟨hn b hb, (f2 b hb).2⟩
  refine codeAny_forLoop_any (fun n s' => ∃ i σ' H', Inv X pins σ' H' s' ∧ tn i s'.heap ∧ (∀ b ∈ fp, H' b = none) ∧ W i n σ' H') ?_ m0 ⟨0, σ, H2, I2, st2, fun b hb => (f2 b hb).1, w0⟩
  rintro n s3 ⟨i, σ3, H3, I3, st3, fr3, w3⟩
  rcases turn i n σ3 H3 w3 with ⟨stop, qn⟩ | ⟨go, N, hN, step⟩
  · refine wpAny_passesOwn hp (thn (T.done X rfl rfl rfl hc i pins s3 σ3 H3 X.xe I3 (stat fr3) st3 stop) fun r s4 ⟨hr, I4⟩ => ?_)
    subst hr
    exact wpAny_execs_nil ⟨σ3, H3, I4, qn⟩
  · refine wpAny_passesOwn hp (thn (T.item X rfl rfl rfl hc i pins s3 σ3 H3 X.xe I3 (stat fr3) st3 go) fun r s4 ⟨u, hr, h4⟩ => ?_)
    subst hr
    refine wpAny_passesOwn hp (thn h4 fun _ s5 ⟨x, H5, I5, r5, y5, st5, fr5⟩ => ?_)
    have I5' := I5.pinned (stat fr5) (T.obj _ _ st5)
    refine wpAny_passesOwn hp (thn (hg _ s5 σ3 H5 x u _ I5' r5 (step x H5 y5)) fun _ s6 ⟨σ6, H6, I6, q6⟩ => ?_)
    refine wpAny_passesOwn hp (thn (hb _ s6 σ6 H6 _ I6 q6) fun f s7 q7 => ?_)
    have again : ∀ {σ7 : St} {H7 : Hp}, Inv X (pins ++ pinsAt fp s5.heap) σ7 H7 s7 → N σ7 H7 → ∃ m, m < n ∧ ∃ i σ' H', Inv X pins σ' H' s7 ∧ tn i s7.heap ∧ (∀ b ∈ fp, H' b = none) ∧ W i m σ' H' := fun {σ7 H7} I7 n7 => by
      obtain ⟨m', hm, w7⟩ := hN σ7 H7 n7
      refine ⟨m', hm, i + 1, σ7, H7, I7.unpinned, T.keep _ _ _ st5 fun b hb o e => (I7.pin (b, o) (List.mem_append_right _ (List.mem_append_right _ (mem_pinsAt hb e)))).1, fun b hb => ?_, w7⟩
      obtain ⟨o, e, d⟩ := T.obj _ _ st5 b hb
      exact (I7.pin (b, o) (List.mem_append_right _ (List.mem_append_right _ (mem_pinsAt hb e)))).2.1
    cases f with
    | next => obtain ⟨σ7, H7, I7, n7⟩ := q7; exact again I7 n7
    | cont => obtain ⟨σ7, H7, I7, n7⟩ := q7; exact again I7 n7
    | brk => obtain ⟨σ7, H7, I7, q7⟩ := q7; exact ⟨σ7, H7, I7.unpinned, q7⟩
    | ret v => obtain ⟨x7, σ7, H7, I7, r7, q7⟩ := q7; exact ⟨x7, σ7, H7, I7.unpinned, r7, q7⟩
end
theorem for_list {K : PySem.W.Frag} {a : Addr} {xs : List V} {g : TG} {tb : TS} {D : Ends} {σ : St} {H : Hp} (Pv : Nat → St → Hp → Prop) (h0 : Pv 0 σ H) (hl : ∀ i σ H, i ≤ xs.length → Pv i σ H → SqL K H a xs)
    (hs : ∀ i x σ H, xs[i]? = some x → Pv i σ H → g x σ H fun σ2 H2 => tb { D with nx := Pv (i + 1), ct := Pv (i + 1), bk := D.nx } σ2 H2) (hd : ∀ σ H, Pv xs.length σ H → D.nx σ H) :
    ∃ W : Nat → Nat → St → Hp → Prop, (∃ m, W 0 m σ H) ∧ ∀ i m σ H, W i m σ H →
      ((Itl K a).stop i H ∧ D.nx σ H) ∨ ((Itl K a).go i H ∧ ∃ N : St → Hp → Prop, (∀ σ' H', N σ' H' → ∃ m', m' < m ∧ W (i + 1) m' σ' H') ∧ ∀ x H', (Itl K a).yld i H x H' → g x σ H' fun σ2 H2 => tb { D with nx := N, ct := N, bk := D.nx } σ2 H2) := by
  refine ⟨fun i m σ H => m = xs.length - i ∧ i ≤ xs.length ∧ Pv i σ H, ⟨xs.length, by simp, Nat.zero_le _, h0⟩, ?_⟩
  rintro i m σ H ⟨rfl, hi, p⟩
  have q := hl i σ H hi p
  by_cases hlt : i < xs.length
  · refine .inr ⟨⟨xs, xs[i], q, by simp [hlt]⟩, Pv (i + 1), fun σ' H' p' => ⟨xs.length - (i + 1), by omega, rfl, hlt, p'⟩, fun x H' y => ?_⟩
    obtain ⟨e, y⟩ := y
    subst e
    exact hs i x σ _ (y xs q) p
  · have e : i = xs.length := by omega
    subst e
    exact .inl ⟨⟨xs, q, Nat.le_refl _⟩, hd σ H p⟩
theorem for_tup {K : PySem.W.Frag} {a : Addr} {xs : List V} {g : TG} {tb : TS} {D : Ends} {σ : St} {H : Hp} (Pv : Nat → St → Hp → Prop) (h0 : Pv 0 σ H) (hl : ∀ i σ H, i ≤ xs.length → Pv i σ H → SqT K H a xs)
    (hs : ∀ i x σ H, xs[i]? = some x → Pv i σ H → g x σ H fun σ2 H2 => tb { D with nx := Pv (i + 1), ct := Pv (i + 1), bk := D.nx } σ2 H2) (hd : ∀ σ H, Pv xs.length σ H → D.nx σ H) :
    ∃ W : Nat → Nat → St → Hp → Prop, (∃ m, W 0 m σ H) ∧ ∀ i m σ H, W i m σ H →
      ((Itt K a).stop i H ∧ D.nx σ H) ∨ ((Itt K a).go i H ∧ ∃ N : St → Hp → Prop, (∀ σ' H', N σ' H' → ∃ m', m' < m ∧ W (i + 1) m' σ' H') ∧ ∀ x H', (Itt K a).yld i H x H' → g x σ H' fun σ2 H2 => tb { D with nx := N, ct := N, bk := D.nx } σ2 H2) := by
  refine ⟨fun i m σ H => m = xs.length - i ∧ i ≤ xs.length ∧ Pv i σ H, ⟨xs.length, by simp, Nat.zero_le _, h0⟩, ?_⟩
  rintro i m σ H ⟨rfl, hi, p⟩
  have q := hl i σ H hi p
  by_cases hlt : i < xs.length
  · refine .inr ⟨⟨xs, xs[i], q, by simp [hlt]⟩, Pv (i + 1), fun σ' H' p' => ⟨xs.length - (i + 1), by omega, rfl, hlt, p'⟩, fun x H' y => ?_⟩
    obtain ⟨e, y⟩ := y
    subst e
    exact hs i x σ _ (y xs q) p
  · have e : i = xs.length := by omega
    subst e
    exact .inl ⟨⟨xs, q, Nat.le_refl _⟩, hd σ H p⟩
theorem for_range {lo : Int} {n : Nat} {g : TG} {tb : TS} {D : Ends} {σ : St} {H : Hp} (Pv : Nat → St → Hp → Prop) (h0 : Pv 0 σ H)
    (hs : ∀ i σ H, i < n → Pv i σ H → g (.int (lo + i)) σ H fun σ2 H2 => tb { D with nx := Pv (i + 1), ct := Pv (i + 1), bk := D.nx } σ2 H2) (hd : ∀ σ H, Pv n σ H → D.nx σ H) :
    ∃ W : Nat → Nat → St → Hp → Prop, (∃ m, W 0 m σ H) ∧ ∀ i m σ H, W i m σ H →
      ((Itr lo n).stop i H ∧ D.nx σ H) ∨ ((Itr lo n).go i H ∧ ∃ N : St → Hp → Prop, (∀ σ' H', N σ' H' → ∃ m', m' < m ∧ W (i + 1) m' σ' H') ∧ ∀ x H', (Itr lo n).yld i H x H' → g x σ H' fun σ2 H2 => tb { D with nx := N, ct := N, bk := D.nx } σ2 H2) := by
  refine ⟨fun i m σ H => m = n - i ∧ i ≤ n ∧ Pv i σ H, ⟨n, by simp, Nat.zero_le _, h0⟩, ?_⟩
  rintro i m σ H ⟨rfl, hi, p⟩
  by_cases hlt : i < n
  · refine .inr ⟨hlt, Pv (i + 1), fun σ' H' p' => ⟨n - (i + 1), by omega, rfl, hlt, p'⟩, fun x H' y => ?_⟩
    obtain ⟨e, y⟩ := y
    subst e y
    exact hs i σ _ hlt p
  · have e : i = n := by omega
    subst e
    exact .inl ⟨Nat.le_refl _, hd σ H p⟩
end L2
namespace L2
open PySem PySem.Spec PyProof.Rows
abbrev R2 := V → V → Hp → VK → Prop
def OpR (X : Cx) (f : Value → Value → Sem Value) (r : R2) : Prop :=
  ∀ (pins : List (Addr × Obj)) (s : Shared) (σ : St) (H : Hp) (x y : V) (v u : Value) (Q : VK), Inv X pins σ H s → RelV x v → RelV y u → r x y H Q →
    wpAny (model X.prog X.w) X.A (f v u) (EP X pins σ Q) X.xe s
def CallR (X : Cx) (f : Value) (r : List V → Hp → VK → Prop) : Prop :=
  ∀ (pins : List (Addr × Obj)) (s : Shared) (σ : St) (H : Hp) (xs : List V) (us : List Value) (Q : VK), Inv X pins σ H s → Vals xs us → r xs H Q →
    wpAny (model X.prog X.w) X.A (call f us) (EP X pins σ Q) X.xe s
def tOp (r : R2) (ta tb : TE) : TE := fun σ H Q => ta σ H fun x H1 => tb σ H1 fun y H2 => r x y H2 Q
def tUn (r : V → Hp → VK → Prop) (ta : TE) : TE := fun σ H Q => ta σ H fun x H1 => r x H1 Q
def rI (C : Int → Int → Prop) (g : Int → Int → V) : R2 := fun x y H Q => ∃ i j, x = .int i ∧ y = .int j ∧ C i j ∧ Q (g i j) H
def rI0 (g : Int → Int → V) : R2 := fun x y H Q => ∃ i j, x = .int i ∧ y = .int j ∧ Q (g i j) H
def rU (g : Int → V) : V → Hp → VK → Prop := fun x H Q => ∃ i, x = .int i ∧ Q (g i) H
section
variable {X : Cx} {a b c : Expr} {ta tb tc : TE} {pos : Pos}
theorem binT (ha : PE X a ta) (hb : PE X b tb) {pins : List (Addr × Obj)} {s : Shared} {σ : St} {H : Hp} {R : V → V → Hp → Prop} (I : Inv X pins σ H s)
    (h : ta σ H fun x H1 => tb σ H1 fun y H2 => R x y H2) {Q : Value → Shared → Prop} {f : Value → Value → Sem Value}
    (hf : ∀ v u s2 x y H2, Inv X pins σ H2 s2 → RelV x v → RelV y u → R x y H2 → wpAny (model X.prog X.w) X.A (f v u) Q X.xe s2) :
    wpAny (model X.prog X.w) X.A (eval a X.env) (fun v s₁ => wpAny (model X.prog X.w) X.A (eval b X.env) (fun u s₂ => wpAny (model X.prog X.w) X.A (f v u) Q X.xe s₂) X.xe s₁) X.xe s := by
  refine thn (ha pins s σ H _ I h) fun v s1 ⟨x, H1, I1, r1, q1⟩ => ?_
  refine thn (hb pins s1 σ H1 _ I1 q1) fun u s2 ⟨y, H2, I2, r2, q2⟩ => ?_
  exact hf v u s2 x y H2 I2 r1 r2 q2
theorem pe_op {op : Operator} {r : R2} (ho : OpR X (binaryOp op) r) (ha : PE X a ta) (hb : PE X b tb) : PE X (.BinOp a op b pos) (tOp r ta tb) := by
  intro pins s σ H Q I h
  exact wpAny_BinOp (binT ha hb I h fun v u s2 x y H2 I2 rx ry q => ho pins s2 σ H2 x y v u Q I2 rx ry q)
theorem opI {f : Value → Value → Sem Value} {C : Int → Int → Prop} {g : Int → Int → Int}
    (rule : ∀ (i j : Int) (t u : Tok) (s : Shared) (Q : Value → Shared → Prop) (E : Value → Shared → Prop), C i j → Q (.int (g i j) s.toks) { s with toks := s.toks + 1 } → wpAny (model X.prog X.w) X.A (f (.int i t) (.int j u)) Q E s) :
    OpR X f (rI C fun i j => .int (g i j)) := by
  intro pins s σ H x y v u Q I rx ry h
  obtain ⟨i, j, rfl, rfl, hc, q⟩ := h
  obtain ⟨t, rfl⟩ := rx
  obtain ⟨t', rfl⟩ := ry
  exact rule i j t t' s _ _ hc ⟨.int (g i j), H, I.tok _, ⟨_, rfl⟩, q⟩
theorem opI0 {f : Value → Value → Sem Value} {g : Int → Int → Int}
    (rule : ∀ (i j : Int) (t u : Tok) (s : Shared) (Q : Value → Shared → Prop) (E : Value → Shared → Prop), Q (.int (g i j) s.toks) { s with toks := s.toks + 1 } → wpAny (model X.prog X.w) X.A (f (.int i t) (.int j u)) Q E s) :
    OpR X f (rI0 fun i j => .int (g i j)) := by
  intro pins s σ H x y v u Q I rx ry h
  obtain ⟨i, j, rfl, rfl, q⟩ := h
  obtain ⟨t, rfl⟩ := rx
  obtain ⟨t', rfl⟩ := ry
  exact rule i j t t' s _ _ ⟨.int (g i j), H, I.tok _, ⟨_, rfl⟩, q⟩
theorem opB0 {f : Value → Value → Sem Value} {g : Int → Int → Bool}
    (rule : ∀ (i j : Int) (t u : Tok) (s : Shared) (Q : Value → Shared → Prop) (E : Value → Shared → Prop), Q (.bool (g i j)) s → wpAny (model X.prog X.w) X.A (f (.int i t) (.int j u)) Q E s) :
    OpR X f (rI0 fun i j => .bl (g i j)) := by
  intro pins s σ H x y v u Q I rx ry h
  obtain ⟨i, j, rfl, rfl, q⟩ := h
  obtain ⟨t, rfl⟩ := rx
  obtain ⟨t', rfl⟩ := ry
  exact rule i j t t' s _ _ ⟨.bl (g i j), H, I, rfl, q⟩
def CMul (i j : Int) : Prop := (-(2 ^ 64) < i ∧ i < 2 ^ 64) ∨ (-(2 ^ 64) < j ∧ j < 2 ^ 64)
theorem CMul.ok {i j : Int} (h : CMul i j) : IntMulOk i j := by
  rcases h with ⟨h1, h2⟩ | ⟨h1, h2⟩
  · exact .of_left (intBits_le_64 h1 h2)
  · exact .of_right (intBits_le_64 h1 h2)
theorem two_pow_nn (k : Nat) : (0 : Int) ≤ 2 ^ k := by
  rw [two_pow_cast]
  exact Int.natCast_nonneg _
theorem op_add : OpR X (binaryOp .Add) (rI0 fun i j => .int (i + j)) := opI0 fun _ _ _ _ _ _ _ q => add_int q
theorem op_sub : OpR X (binaryOp .Sub) (rI0 fun i j => .int (i - j)) := opI0 fun _ _ _ _ _ _ _ q => sub_int q
theorem op_mul : OpR X (binaryOp .Mult) (rI CMul fun i j => .int (i * j)) := opI fun _ _ _ _ _ _ _ hc q => mul_int q hc.ok
theorem op_mod : OpR X (binaryOp .Mod) (rI (fun _ j => 0 < j) fun i j => .int (i % j)) := opI fun i j _ _ _ _ _ hc q => by
  have h1 : (0 : Int) < j := hc
  exact mod_int' (by omega) (by rw [Int.fmod_eq_emod_of_nonneg i (by omega)]; exact q)
theorem op_shr : OpR X (binaryOp .RShift) (rI (fun _ j => 0 ≤ j) fun i j => .int (i / 2 ^ j.toNat)) := opI fun i j _ _ _ _ _ hc q =>
  rshift_int hc (by rw [Int.fdiv_eq_ediv_of_nonneg i (two_pow_nn _)]; exact q)
end
def scal : V → V → Bool
  | .non, .non => true | .non, .int _ => true | .int _, .non => true | .non, .bl _ => true | .bl _, .non => true | .non, .str _ => true | .str _, .non => true
  | .int _, .int _ => true | .bl _, .bl _ => true | .str _, .str _ => true | .byt _, .byt _ => true
  | .int _, .str _ => true | .str _, .int _ => true | .bl _, .str _ => true | .str _, .bl _ => true
  | _, _ => false
def rEq : R2 := fun x y H Q => scal x y = true ∧ Q (.bl (decide (x = y))) H
def rNe : R2 := fun x y H Q => scal x y = true ∧ Q (.bl (!decide (x = y))) H
theorem dec_int {i j : Int} : decide (V.int i = V.int j) = (i == j) := by
  rw [Bool.eq_iff_iff]
  simp
theorem dec_bl {i j : Bool} : decide (V.bl i = V.bl j) = (i == j) := by
  rw [Bool.eq_iff_iff]
  simp
theorem dec_str {i j : Str} : decide (V.str i = V.str j) = (i == j) := by
  rw [Bool.eq_iff_iff]
  simp
theorem dec_byt {i j : Array UInt8} : decide (V.byt i = V.byt j) = (i.toList == j.toList) := by
  rw [Bool.eq_iff_iff]
  cases i
  cases j
  simp
section
variable {X : Cx} {a b c : Expr} {ta tb tc : TE} {pos : Pos}
theorem fin_bl {pins : List (Addr × Obj)} {σ : St} {H : Hp} {s : Shared} {Q : VK} {k k' : Bool} (I : Inv X pins σ H s) (q : Q (.bl k) H) (e : k = k') : EP X pins σ Q (.bool k') s := by
  subst e
  exact ⟨.bl k, H, I, rfl, q⟩
theorem op_eq : OpR X (compareOp .Eq) rEq := by
  intro pins s σ H x y v u Q I rx ry h
  obtain ⟨hs, q⟩ := h
  cases x with
  | non =>
    cases rx
    cases y with
    | non => cases ry; exact PySem.EqNone.eq_none_none (fin_bl I q (by simp))
    | bl j => cases ry; exact PySem.EqNone.eq_none_bool (fin_bl I q (by simp))
    | int j => obtain ⟨t', rfl⟩ := ry; exact PySem.EqNone.eq_none_int (fin_bl I q (by simp))
    | str j => obtain ⟨t', rfl⟩ := ry; exact PySem.EqNone.eq_none_str (fin_bl I q (by simp))
    | _ => exact absurd (show false = true from hs) Bool.false_ne_true
  | bl i =>
    cases rx
    cases y with
    | non => cases ry; exact PySem.EqNone.eq_bool_none (fin_bl I q (by simp))
    | bl j => cases ry; exact eq_bool (fin_bl I q dec_bl)
    | str j => obtain ⟨t', rfl⟩ := ry; exact PySem.EqMixed.eq_bool_str (fin_bl I q (by simp))
    | _ => exact absurd (show false = true from hs) Bool.false_ne_true
  | int i =>
    obtain ⟨t, rfl⟩ := rx
    cases y with
    | non => cases ry; exact PySem.EqNone.eq_int_none (fin_bl I q (by simp))
    | int j => obtain ⟨t', rfl⟩ := ry; exact eq_int (fin_bl I q dec_int)
    | str j => obtain ⟨t', rfl⟩ := ry; exact PySem.EqMixed.eq_int_str (fin_bl I q (by simp))
    | _ => exact absurd (show false = true from hs) Bool.false_ne_true
  | str i =>
    obtain ⟨t, rfl⟩ := rx
    cases y with
    | non => cases ry; exact PySem.EqNone.eq_str_none (fin_bl I q (by simp))
    | bl j => cases ry; exact PySem.EqMixed.eq_str_bool (fin_bl I q (by simp))
    | int j => obtain ⟨t', rfl⟩ := ry; exact PySem.EqMixed.eq_str_int (fin_bl I q (by simp))
    | str j => obtain ⟨t', rfl⟩ := ry; exact eq_str (fin_bl I q dec_str)
    | _ => exact absurd (show false = true from hs) Bool.false_ne_true
  | byt i =>
    obtain ⟨t, rfl⟩ := rx
    cases y with
    | byt j => obtain ⟨t', rfl⟩ := ry; exact PySem.W.eq_bytes (fin_bl I q dec_byt)
    | _ => exact absurd (show false = true from hs) Bool.false_ne_true
  | _ => cases y <;> exact absurd (show false = true from hs) Bool.false_ne_true
theorem op_ne : OpR X (compareOp .NotEq) rNe := by
  intro pins s σ H x y v u Q I rx ry h
  obtain ⟨hs, q⟩ := h
  cases x with
  | non =>
    cases rx
    cases y with
    | non => cases ry; exact PySem.EqNone.ne_none_none (fin_bl I q (by simp))
    | bl j => cases ry; exact PySem.EqNone.ne_none_bool (fin_bl I q (by simp))
    | int j => obtain ⟨t', rfl⟩ := ry; exact PySem.EqNone.ne_none_int (fin_bl I q (by simp))
    | str j => obtain ⟨t', rfl⟩ := ry; exact PySem.EqNone.ne_none_str (fin_bl I q (by simp))
    | _ => exact absurd (show false = true from hs) Bool.false_ne_true
  | bl i =>
    cases rx
    cases y with
    | non => cases ry; exact PySem.EqNone.ne_bool_none (fin_bl I q (by simp))
    | bl j => cases ry; exact ne_bool (fin_bl I q (congrArg not dec_bl))
    | str j => obtain ⟨t', rfl⟩ := ry; exact PySem.EqMixed.ne_bool_str (fin_bl I q (by simp))
    | _ => exact absurd (show false = true from hs) Bool.false_ne_true
  | int i =>
    obtain ⟨t, rfl⟩ := rx
    cases y with
    | non => cases ry; exact PySem.EqNone.ne_int_none (fin_bl I q (by simp))
    | int j => obtain ⟨t', rfl⟩ := ry; exact ne_int (fin_bl I q (congrArg not dec_int))
    | str j => obtain ⟨t', rfl⟩ := ry; exact PySem.EqMixed.ne_int_str (fin_bl I q (by simp))
    | _ => exact absurd (show false = true from hs) Bool.false_ne_true
  | str i =>
    obtain ⟨t, rfl⟩ := rx
    cases y with
    | non => cases ry; exact PySem.EqNone.ne_str_none (fin_bl I q (by simp))
    | bl j => cases ry; exact PySem.EqMixed.ne_str_bool (fin_bl I q (by simp))
    | int j => obtain ⟨t', rfl⟩ := ry; exact PySem.EqMixed.ne_str_int (fin_bl I q (by simp))
    | str j => obtain ⟨t', rfl⟩ := ry; exact ne_str (fin_bl I q (congrArg not dec_str))
    | _ => exact absurd (show false = true from hs) Bool.false_ne_true
  | byt i =>
    obtain ⟨t, rfl⟩ := rx
    cases y with
    | byt j => obtain ⟨t', rfl⟩ := ry; exact PySem.W.ne_bytes (fin_bl I q (congrArg not dec_byt))
    | _ => exact absurd (show false = true from hs) Bool.false_ne_true
  | _ => cases y <;> exact absurd (show false = true from hs) Bool.false_ne_true
theorem op_lt : OpR X (compareOp .Lt) (rI0 fun i j => .bl (decide (i < j))) := opB0 fun _ _ _ _ _ _ _ q => lt_int q
theorem op_le : OpR X (compareOp .LtE) (rI0 fun i j => .bl (decide (i ≤ j))) := opB0 fun _ _ _ _ _ _ _ q => le_int q
theorem op_gt : OpR X (compareOp .Gt) (rI0 fun i j => .bl (decide (j < i))) := opB0 fun _ _ _ _ _ _ _ q => gt_int q
theorem nomark (b : Expr) {op : CmpOp} (h : op ≠ .In := by decide) (h2 : op ≠ .NotIn := by decide) : behindInMarks op b = false := by
  have e1 : (op == CmpOp.In) = false := by cases op <;> first | rfl | exact absurd rfl h
  have e2 : (op == CmpOp.NotIn) = false := by cases op <;> first | rfl | exact absurd rfl h2
  cases b <;> simp [behindInMarks, e1, e2]
theorem pe_cmpR {op : CmpOp} {r : R2} (ho : OpR X (compareOp op) r) (ha : PE X a ta) (hb : PE X b tb) (hm : behindInMarks op b = false) : PE X (.Compare a [op] [b] pos) (tOp r ta tb) := by
  intro pins s σ H Q I h
  exact wpAny_Compare1 (binT ha hb I h fun v u s2 x y H2 I2 rx ry q => ho pins s2 σ H2 x y v u Q I2 rx ry q) hm
def tTest (t : TE) : TT := fun σ H Q => t σ H fun x H' => ∃ k, x = .bl k ∧ Q k H'
theorem pt_cmpR {op : CmpOp} {r : R2} (ho : OpR X (compareOp op) r) (ha : PE X a ta) (hb : PE X b tb) (hm : behindInMarks op b = false) : PT X (.Compare a [op] [b] pos) (tTest (tOp r ta tb)) := by
  intro pins s σ H Q I h
  refine wpAny_isTrue_Compare1 (thn (ha pins s σ H _ I h) fun v s1 ⟨x, H1, I1, r1, q1⟩ => thn (hb pins s1 σ H1 _ I1 q1) fun u s2 ⟨y, H2, I2, r2, q2⟩ =>
    thn (ho pins s2 σ H2 x y v u _ I2 r1 r2 q2) fun c s3 ⟨z, H3, I3, r3, k, e, q3⟩ => ?_) hm
  subst e
  cases r3
  exact wpAny_truthy_bool ⟨H3, I3, q3⟩
def tChain (r r' : R2) (ta tb tc : TE) : TE := fun σ H Q => ta σ H fun x H1 => tb σ H1 fun y H2 => r x y H2 fun z H3 => ∃ k, z = .bl k ∧
  (if k = true then tc σ H3 fun w' H4 => r' y w' H4 Q else Q (.bl false) H3)
theorem pe_chain {op op' : CmpOp} {r r' : R2} (ho : OpR X (compareOp op) r) (ho' : OpR X (compareOp op') r') (ha : PE X a ta) (hb : PE X b tb) (hc : PE X c tc)
    (hm : lastMarks [op, op'] [b, c] = false := by with_unfolding_all rfl) : PE X (.Compare a [op, op'] [b, c] pos) (tChain r r' ta tb tc) := by
  intro pins s σ H Q I h
  refine Compare_chain (thn (ha pins s σ H _ I h) fun v s1 ⟨x, H1, I1, r1, q1⟩ => chain_link (thn (hb pins s1 σ H1 _ I1 q1) fun u s2 ⟨y, H2, I2, r2, q2⟩ =>
    thn (ho pins s2 σ H2 x y v u _ I2 r1 r2 q2) fun d s3 ⟨z, H3, I3, r3, k, e, q3⟩ => ?_)) hm
  subst e
  cases r3
  refine wpAny_truthy_bool ?_
  cases k with
  | false => exact ite_ff ⟨.bl false, H3, I3, rfl, q3⟩
  | true => exact ite_tt (chain_last (thn (hc pins s3 σ H3 _ I3 q3) fun w' s4 ⟨z', H4, I4, r4, q4⟩ => ho' pins s4 σ H4 y z' u w' Q I4 r2 r4 q4))
theorem pt_chain {op op' : CmpOp} {r r' : R2} (ho : OpR X (compareOp op) r) (ho' : OpR X (compareOp op') r') (ha : PE X a ta) (hb : PE X b tb) (hc : PE X c tc)
    (hm : lastMarks [op, op'] [b, c] = false := by with_unfolding_all rfl) : PT X (.Compare a [op, op'] [b, c] pos) (tTest (tChain r r' ta tb tc)) := by
  intro pins s σ H Q I h
  refine isTrue_chain (thn (ha pins s σ H _ I h) fun v s1 ⟨x, H1, I1, r1, q1⟩ => test_link (thn (hb pins s1 σ H1 _ I1 q1) fun u s2 ⟨y, H2, I2, r2, q2⟩ =>
    thn (ho pins s2 σ H2 x y v u _ I2 r1 r2 q2) fun d s3 ⟨z, H3, I3, r3, k, e, q3⟩ => ?_)) hm
  subst e
  cases r3
  refine wpAny_truthy_bool ?_
  cases k with
  | false =>
    obtain ⟨k', e', q'⟩ := q3
    cases e'
    exact ite_ff ⟨H3, I3, q'⟩
  | true =>
    refine ite_tt (test_last (thn (hc pins s3 σ H3 _ I3 q3) fun w' s4 ⟨z', H4, I4, r4, q4⟩ => thn (ho' pins s4 σ H4 y z' u w' _ I4 r2 r4 q4) fun d' s5 ⟨z2, H5, I5, r5, k2, e2, q5⟩ => ?_))
    subst e2
    cases r5
    exact wpAny_truthy_bool ⟨H5, I5, q5⟩
theorem line63 : (sizeLine : Nat) < 2 ^ 63 := by rw [sizeLine_eq]; decide
theorem vals1 {x : V} {us : List Value} (r : Vals [x] us) : ∃ u, us = [u] ∧ RelV x u := by
  cases r with
  | cons r1 r2 => cases r2; exact ⟨_, rfl, r1⟩
theorem vals2 {x y : V} {us : List Value} (r : Vals [x, y] us) : ∃ u w', us = [u, w'] ∧ RelV x u ∧ RelV y w' := by
  cases r with
  | cons r1 r2 =>
    cases r2 with
    | cons r3 r4 => cases r4; exact ⟨_, _, rfl, r1, r3⟩
end
end L2
namespace L2
open PySem PySem.Spec PyProof.Rows
structure ObjM (h : Heap) (x dx C : Addr) (mA : Str → Option Value) : Prop where
  obj : h.get? x = some (PySem.W.instObj C dx)
  ns : h.Ns1 dx mA
  ne : dx ≠ x
theorem lookIn_ns {h : Heap} {dx : Addr} {mA : Str → Option Value} (n : h.Ns1 dx mA) : ∃ od, h.get? dx = some od ∧ ∀ name, PySem.W.lookIn name od = some (mA name) := by
  obtain ⟨o, es, ep, ho, hd, hk, _, hm⟩ := n
  refine ⟨o, ho, fun name => ?_⟩
  have e := hm name
  unfold nsFind findBy at e
  rw [← Array.find?_toList] at e
  unfold PySem.W.lookIn
  rw [hd]
  dsimp only
  split
  · rename_i y q
    rw [q] at e
    exact congrArg some e
  · rename_i q
    rw [q] at e
    have a : es.toList.any (·.refKey) = false := by
      rw [List.any_eq_false]
      intro y hy
      obtain ⟨z, t, hkey⟩ := hk y (Array.mem_toList_iff.mp hy)
      simp [DictEntry.refKey, hkey]
    have a' : ¬ es.toList.any (·.refKey) = true := by rw [a]; exact Bool.false_ne_true
    rw [if_neg a']
    exact congrArg some e
theorem ObjM.look {h : Heap} {x dx C : Addr} {mA : Str → Option Value} (I : ObjM h x dx C mA) : ∃ od, PySem.W.InstAt h x (PySem.W.instObj C dx) C (some od) ∧ ∀ name, PySem.W.lookIn name od = some (mA name) :=
  let ⟨od, ho, hl⟩ := lookIn_ns I.ns
  ⟨od, ⟨I.obj, rfl, rfl, ho⟩, hl⟩
section
variable {prog : Program} {w : World} {A : Around} {E : Value → Shared → Prop} {s : Shared} {K : PySem.W.Frag} {x dx C f : Addr} {mA : Str → Option Value} {name : Str} {v : Value}
theorem get_map {expr : Bool} {Q : Value → Shared → Prop} (X : K.In s.heap) (I : ObjM s.heap x dx C mA) (hg : PySem.W.plainGet K C name = true) (hh : PySem.W.hasDictIn K C = true)
    (ha : PySem.W.findIn K (.ref C) name = some none) (hv : mA name = some v) (hv' : PySem.W.handedIn v = true) (h : Q v { s with toks := s.toks + 1 }) :
    wpAny (model prog w) A (getAttr (.ref x) name expr) Q E s := by
  obtain ⟨od, J, hl⟩ := I.look
  exact PySem.W.get_value X J (PySem.W.plainGet_of hg).1 (PySem.W.findObj_own hh ha rfl (by rw [hl, hv])) hv' h
theorem get_meth {pl : Sem Bool} {Q : Value × List Value → Shared → Prop} (X : K.In s.heap) (I : ObjM s.heap x dx C mA) (hg : PySem.W.plainGet K C name = true)
    (hf : PySem.W.findIn K (.ref C) name = some (some (.ref f))) (ht : PySem.W.isFn K (.ref f) = true) (hv : mA name = none) (h : Q (.ref f, [.ref x]) s) :
    wpAny (model prog w) A (getMethod (.ref x) name pl) Q E s := by
  obtain ⟨od, J, hl⟩ := I.look
  exact PySem.W.method_fn X J (PySem.W.plainGet_of hg).1 (PySem.W.plainGet_of hg).2 hf (beq_iff_eq.mp ht) (by show (PySem.W.lookIn name od).map (·.isSome) = some false; rw [hl, hv]; rfl) h
theorem set_map {ns : List Str} {Q : Unit → Shared → Prop} (X : K.In s.heap) (I : ObjM s.heap x dx C mA)
    (hs : PySem.W.findIn K (.ref C) "__setattr__" = some (some (.builtin "object.__setattr__"))) (hp : PySem.W.plainOver K C = true) (ht : PySem.W.takerIn K C name = some none) (hh : PySem.W.hasDictIn K C = true)
    (hw : PySem.Within mA ns) (hsz : ns.length ≤ sizeLine)
    (h : ∀ h', ObjM h' x dx C (fun y => if y = name then some v else mA y) → Heap.SameBut dx s.heap h' → Q () { s with heap := h', toks := s.toks + 2 }) :
    wpAny (model prog w) A (setAttr (.ref x) name v) Q E s := by
  obtain ⟨od, J, hl⟩ := I.look
  refine PySem.W.set_plain X J hs (PySem.W.osa_open (s := { s with toks := s.toks + 1 }) (r := none) X J hp ht fun b => ?_)
  obtain ⟨cd, hc, hd'⟩ := PySem.W.any_some hh
  have hx : s.heap.get? x = some ⟨.ref C, some dx, .plain, #[]⟩ := I.obj
  refine wpAny_bind (wpAny_pure (wpAny_bind (wpAny_bind (wpAny_loadPart hx (wpAny_bind (PySem.W.Looks.here (s := { s with toks := s.toks + 1 }) (PySem.W.looks_clsIn X hc) ?_))))))
  rw [hd']
  refine wpAny_pure (a := some dx) (wpAny_bind (wpAny_pure (wpAny_bind ?_)))
  refine wpAny_nsSet1 (s := { s with toks := s.toks + 1 }) I.ns fun h' hn2 hs2 => ?_
  obtain ⟨oD, esD, epD, hoD, hdD, hcD⟩ := hn2.count (PySem.Within.cons name v hw)
  refine wpAny_bind (wpAny_lookBehind hoD (by rw [hdD]; exact pastItsLine_dict (Nat.le_trans hcD (by rw [List.length_cons]; omega))) ?_)
  exact wpAny_pure (h _ ⟨(hs2.2 _ (Ne.symm I.ne)).trans I.obj, hn2, I.ne⟩ hs2)
theorem make_map {R : Result → Shared → Prop} {vs : List Value} {kw : List (Str × Value)} (X : K.In s.heap) (hm : PySem.W.makesIn K C = true)
    (hi : PySem.W.findIn K (.ref C) "__init__" = some (some (.ref f))) (hf : PySem.W.typeIn K (.ref f) = some (.type "function"))
    (h : codeAny (model prog w) (A.under (.builtin "type.__call__" ⟨.ref C :: vs, kw⟩)) (.call (.ref f) ⟨.ref (s.heap.objs.size + 1) :: vs, kw⟩) (PySem.W.InitBack (s.heap.objs.size + 1) R)
      { s with heap := (s.heap.push PySem.W.emptyDict).push (PySem.W.instObj C s.heap.objs.size) }) :
    codeAny (model prog w) A (.call (.ref C) ⟨vs, kw⟩) R s := by
  obtain ⟨hh, g, d, t, os⟩ := s
  exact PySem.W.make_core (PySem.W.makes_of X hm) (PySem.W.looks_findIn X hi) (fun self => PySem.W.bind_fn X self hf) (.inl rfl) h
end
def putF (f : Str) (v : V) : List (Str × V) → List (Str × V)
  | [] => [(f, v)]
  | (g, x) :: r => if g = f then (g, v) :: r else (g, x) :: putF f v r
theorem lookup_putF (f g : Str) (v : V) : ∀ fs : List (Str × V), (putF f v fs).lookup g = if g = f then some v else fs.lookup g
  | [] => by
    show List.lookup g [(f, v)] = _
    by_cases h : g = f
    · have hb : (g == f) = true := beq_iff_eq.mpr h
      simp only [List.lookup, hb, if_pos h]
    · have hb : (g == f) = false := beq_eq_false_iff_ne.mpr h
      simp only [List.lookup, hb, if_neg h]
  | (k, x) :: r => by
    have ih := lookup_putF f g v r
    rw [show putF f v ((k, x) :: r) = (if k = f then (k, v) :: r else (k, x) :: putF f v r) from rfl]
    by_cases hk : k = f
    · rw [if_pos hk]
      by_cases h : g = k
      · have hb : (g == k) = true := beq_iff_eq.mpr h
        simp only [List.lookup, hb, if_pos (h.trans hk)]
      · have hb : (g == k) = false := beq_eq_false_iff_ne.mpr h
        simp only [List.lookup, hb, if_neg (fun e : g = f => h (e.trans hk.symm))]
    · rw [if_neg hk]
      by_cases h : g = k
      · have hb : (g == k) = true := beq_iff_eq.mpr h
        simp only [List.lookup, hb, if_neg (fun e : g = f => hk (h.symm.trans e))]
      · have hb : (g == k) = false := beq_eq_false_iff_ne.mpr h
        simp only [List.lookup, hb]
        exact ih
theorem keys_putF (f : Str) (v : V) : ∀ fs : List (Str × V), f ∈ (putF f v fs).map (·.1) ∧ ∀ g, g ∈ fs.map (·.1) → g ∈ (putF f v fs).map (·.1)
  | [] => ⟨by simp [putF], fun g h => by simp at h⟩
  | (k, x) :: r => by
    obtain ⟨i1, i2⟩ := keys_putF f v r
    rw [show putF f v ((k, x) :: r) = (if k = f then (k, v) :: r else (k, x) :: putF f v r) from rfl]
    by_cases hk : k = f
    · rw [if_pos hk]
      subst hk
      exact ⟨by simp, fun g h => by simpa using h⟩
    · rw [if_neg hk]
      refine ⟨?_, fun g h => ?_⟩
      · rw [List.map_cons]
        exact List.mem_cons_of_mem _ i1
      · rw [List.map_cons] at h ⊢
        rcases List.mem_cons.mp h with e | e
        · exact List.mem_cons.mpr (.inl e)
        · exact List.mem_cons_of_mem _ (i2 g e)
theorem length_putF (f : Str) (v : V) : ∀ fs : List (Str × V), (putF f v fs).length ≤ fs.length + 1
  | [] => by simp [putF]
  | (k, x) :: r => by
    have ih := length_putF f v r
    rw [show putF f v ((k, x) :: r) = (if k = f then (k, v) :: r else (k, x) :: putF f v r) from rfl]
    by_cases hk : k = f
    · rw [if_pos hk, List.length_cons, List.length_cons]; omega
    · rw [if_neg hk, List.length_cons, List.length_cons]; omega
theorem RelO.some_of {v : V} {o : Option Value} (r : RelO (some v) o) : ∃ u, o = some u ∧ RelV v u := by
  cases o with
  | none => exact (show False from r).elim
  | some u => exact ⟨u, rfl, r⟩
theorem RelO.none_of {o : Option Value} (r : RelO none o) : o = none := by
  cases o with
  | none => rfl
  | some u => exact (show False from r).elim
theorem handed_of {v : V} {u : Value} (r : RelV v u) : PySem.W.handedIn u = true := by
  cases v with
  | non => cases (show u = Value.none from r); rfl
  | bl b => cases (show u = Value.bool b from r); rfl
  | int i => obtain ⟨t, e⟩ := (show ∃ t, u = Value.int i t from r); cases e; rfl
  | str x => obtain ⟨t, e⟩ := (show ∃ t, u = Value.str x t from r); cases e; rfl
  | byt b => obtain ⟨t, e⟩ := (show ∃ t, u = Value.bytes b t from r); cases e; rfl
  | flt b => obtain ⟨t, e⟩ := (show ∃ t, u = Value.float b t from r); cases e; rfl
  | ref a => cases (show u = Value.ref a from r); rfl
  | ty n => cases (show u = Value.type n from r); rfl
section
variable {P : Program} {w : World} {H H' : Hp} {h h' : Heap} {a C dx : Addr} {fs fs' : List (Str × V)}
theorem ins_get (hok : HOk P w H h) (e : H a = some (.ins C dx fs)) : ∃ mA, ObjM h a dx C mA ∧ (∀ f, RelO (fs.lookup f) (mA f)) ∧ PySem.Within mA (fs.map (·.1)) ∧ fs.length ≤ 1000 ∧ H dx = some (.own a) := by
  obtain ⟨d, z, ne, ob, mA, n, r, q⟩ := (show ObjOk P w H h a (.ins C dx fs) from hok a _ e)
  exact ⟨mA, ⟨ob, n, ne⟩, r, q, z, d⟩
end
structure Cls (K : PySem.W.Frag) (C : Addr) : Prop where
  pg : PySem.W.plainGet K C Str.empty = true
  hd : PySem.W.hasDictIn K C = true
  po : PySem.W.plainOver K C = true
  sa : PySem.W.findIn K (.ref C) "__setattr__" = some (some (.builtin "object.__setattr__"))
theorem Cls.get {K : PySem.W.Frag} {C : Addr} (c : Cls K C) (f : Str) : PySem.W.plainGet K C f = true := c.pg
def NoAttr (K : PySem.W.Frag) (C : Addr) (f : Str) : Prop := PySem.W.findIn K (.ref C) f = some none
theorem NoAttr.taker {K : PySem.W.Frag} {C : Addr} {f : Str} (n : NoAttr K C f) : PySem.W.takerIn K C f = some none := by
  unfold PySem.W.takerIn
  rw [show PySem.W.findIn K (.ref C) f = some none from n]
  rfl
structure Con (K : PySem.W.Frag) (C : Addr) (f : Str) (v : V) (u : Value) : Prop where
  at_ : PySem.W.findIn K (.ref C) f = some (some u)
  rel : RelV v u
  get : PySem.W.specialIn K u "__get__" = some none
  cp : PySem.W.copiedNames.contains f = false
structure Meth (K : PySem.W.Frag) (C : Addr) (m : Str) (f : Addr) : Prop where
  at_ : PySem.W.findIn K (.ref C) m = some (some (.ref f))
  fn : PySem.W.isFn K (.ref f) = true
  kp : PySem.W.keepIn K (.ref f) = true
section
variable {X : Cx} {pins : List (Addr × Obj)} {σ : St} {H : Hp} {s : Shared} {a C dx : Addr} {fs : List (Str × V)} {f : Str} {v : V} {A : Around} {E : Value → Shared → Prop}
theorem getattr_ok {b : Bool} {Q : Value → Shared → Prop} (I : Inv X pins σ H s) (e : H a = some (.ins C dx fs)) (c : Cls X.K C) (n : NoAttr X.K C f) (l : fs.lookup f = some v)
    (h : ∀ u s', Inv X pins σ H s' → RelV v u → Q u s') : wpAny (model X.prog X.w) A (getAttr (.ref a) f b) Q E s := by
  obtain ⟨mA, O, r, _, _, _⟩ := ins_get I.hok e
  obtain ⟨u, hu, ru⟩ := RelO.some_of (v := v) (o := mA f) (by rw [← l]; exact r f)
  exact get_map I.kIn O (c.get f) c.hd n hu (handed_of ru) (h u _ (I.tok _) ru)
theorem getmeth_ok {m : Str} {g : Addr} {pl : Sem Bool} {Q : Value × List Value → Shared → Prop} (I : Inv X pins σ H s) (e : H a = some (.ins C dx fs)) (c : Cls X.K C) (k : Meth X.K C m g) (l : fs.lookup m = none)
    (h : Q (.ref g, [.ref a]) s) : wpAny (model X.prog X.w) A (getMethod (.ref a) m pl) Q E s := by
  obtain ⟨mA, O, r, _, _, _⟩ := ins_get I.hok e
  have hn : mA m = none := RelO.none_of (by rw [← l]; exact r m)
  exact get_meth I.kIn O (c.get m) k.at_ k.fn hn h
theorem setattr_ok {y : V} {u : Value} {Q : Unit → Shared → Prop} (I : Inv X pins σ H s) (e : H a = some (.ins C dx fs)) (c : Cls X.K C) (n : NoAttr X.K C f) (hl : fs.length < 1000) (ry : RelV y u)
    (h : ∀ s', Inv X pins σ (upd H a (.ins C dx (putF f y fs))) s' → Q () s') : wpAny (model X.prog X.w) A (setAttr (.ref a) f u) Q E s := by
  obtain ⟨mA, O, r, wi, _, ho⟩ := ins_get I.hok e
  have hz : (fs.map (·.1)).length ≤ sizeLine := by rw [List.length_map, sizeLine_eq]; omega
  refine set_map I.kIn O c.sa c.po n.taker c.hd wi hz fun h' O' sb => h _ ?_
  have hd : ∃ o, h'.get? dx = some o := let ⟨o, _, _, e', _⟩ := O'.ns; ⟨o, e'⟩
  refine I.write (x := a) (e := dx) (by rw [e]; exact True.intro) (.inr ho) (fun b q hb z => (sb.2 b hb).trans z) hd ?_
  refine ⟨by rw [upd_ne O.ne]; exact ho, ?_, O.ne, O'.obj, _, O'.ns, fun g => ?_, fun g hg => ?_⟩
  · have := length_putF f y fs; omega
  · show RelO ((putF f y fs).lookup g) (if g = f then some u else mA g)
    rw [lookup_putF]
    by_cases q : g = f
    · rw [if_pos q, if_pos q]; exact ry
    · rw [if_neg q, if_neg q]; exact r g
  · by_cases q : g = f
    · rw [q]; exact (keys_putF f y fs).1
    · refine (keys_putF f y fs).2 g (wi g fun z => hg ?_)
      show (if g = f then some u else mA g) = none
      rw [if_neg q]; exact z
theorem Inv.made (I : Inv X pins σ H s) : Inv X pins σ (upd (upd H s.heap.objs.size (.own (s.heap.objs.size + 1))) (s.heap.objs.size + 1) (.ins C s.heap.objs.size []))
    { s with heap := (s.heap.push PySem.W.emptyDict).push (PySem.W.instObj C s.heap.objs.size) } := by
  have e1 : (s.heap.push PySem.W.emptyDict).get? s.heap.objs.size = some PySem.W.emptyDict := Heap.get?_push_size s.heap rfl
  have e2 : ((s.heap.push PySem.W.emptyDict).push (PySem.W.instObj C s.heap.objs.size)).get? (s.heap.objs.size + 1) = some (PySem.W.instObj C s.heap.objs.size) := by
    have := Heap.get?_push_size (s.heap.push PySem.W.emptyDict) (o := PySem.W.instObj C s.heap.objs.size) rfl
    rwa [Heap.size_push] at this
  have e3 : (s.heap.push PySem.W.emptyDict).Ns s.heap.objs.size (fun _ => none) := ⟨PySem.W.emptyDict, #[], _, e1, rfl, (fun e he => absurd he (by simp)), fun _ => rfl⟩
  have I1 := I.laid (a := s.heap.objs.size) (o := .own (s.heap.objs.size + 1)) (h' := s.heap.push PySem.W.emptyDict) (t' := s.toks) (fun b u q => Heap.get?_push_of_some _ q) (Nat.le_refl _) ⟨_, e1⟩
  refine I1.laid (a := s.heap.objs.size + 1) (o := .ins C s.heap.objs.size []) (t' := s.toks) (fun b u q => Heap.get?_push_of_some _ q) (Nat.le_of_eq (Heap.size_push _ _)) ?_
  have ne : s.heap.objs.size ≠ s.heap.objs.size + 1 := Nat.ne_of_lt (Nat.lt_succ_self _)
  refine ⟨by rw [upd_ne ne, upd_same], Nat.zero_le _, ne, e2, fun _ => none, (Heap.Ns1.of_empty e3).at fun o q => Heap.get?_push_of_some _ q, fun _ => True.intro, fun y hy => absurd rfl hy⟩
theorem attr_of {prog : Program} {w : World} {env : Env} {e : Expr} {f : Str} {pos : Pos} {s : Shared} {Q : Value → Shared → Prop} (hb : attributeBase e f env (eval e env) = eval e env)
    (h : wpAny (model prog w) A (eval e env) (fun o s₁ => wpAny (model prog w) A (getAttr o f true) Q E s₁) E s) : wpAny (model prog w) A (eval (.Attribute e f pos) env) Q E s :=
  Attribute_any_ h (by rw [arm_eval_Attribute, hb])
end
def tFld (K : PySem.W.Frag) (ta : TE) (f : Str) : TE := fun σ H Q => ta σ H fun x H1 => ∃ a C dx fs v, x = .ref a ∧ H1 a = some (.ins C dx fs) ∧ Cls K C ∧ NoAttr K C f ∧ fs.lookup f = some v ∧ Q v H1
def sFld (K : PySem.W.Frag) (ta tv : TE) (f : Str) : TS := fun D σ H => tv σ H fun y H1 => ta σ H1 fun x H2 => ∃ a C dx fs, x = .ref a ∧ H2 a = some (.ins C dx fs) ∧ Cls K C ∧ NoAttr K C f ∧ fs.length < 1000 ∧
  D.nx σ (upd H2 a (.ins C dx (putF f y fs)))
section
variable {X : Cx} {o e value : Expr} {f : Str} {pos pos' tpos : Pos} {ta tv : TE}
theorem pe_fld (he : PE X e ta) (hb : attributeBase e f X.env (eval e X.env) = eval e X.env) : PE X (.Attribute e f pos) (tFld X.K ta f) := by
  intro pins s σ H Q I h
  refine attr_of hb (thn (he pins s σ H _ I h) fun u s1 ⟨x, H1, I1, rx, a, C, dx, fs, v, ex, ea, c, n, l, q⟩ => ?_)
  subst ex
  obtain rfl : u = Value.ref a := rx
  exact getattr_ok I1 ea c n l fun u' s2 I2 ru => ⟨v, H1, I2, ru, q⟩
theorem ps_fld (ha : PE X o ta) (hv : PE X value tv) (hs : swapsWith value (some (.Attribute o f pos')) pos.line X.env = pure false) : PS X (.Assign [.Attribute o f pos'] value pos) (sFld X.K ta tv f) := by
  intro pins s σ H D I h
  refine plainObj_wpAny_Assign_Attribute (thn (hv pins s σ H _ I h) fun u s1 ⟨y, H1, I1, ry, q⟩ => thn (ha pins s1 σ H1 _ I1 q) fun ov s2 ⟨x, H2, I2, rx, a, C, dx, fs, ex, ea, c, n, l, q2⟩ => ?_) hs
  subst ex
  obtain rfl : ov = Value.ref a := rx
  exact setattr_ok I2 ea c n l ry fun s3 I3 => ⟨σ, _, I3, q2⟩
end
section
variable {X : Cx} {pins : List (Addr × Obj)} {σ : St} {H : Hp} {s : Shared} {A : Around} {E : Value → Shared → Prop} {Q : Value → Shared → Prop} {c : Value} {b : Bool}
inductive TyOf (K : PySem.W.Frag) (H : Hp) : V → Value → Prop where
  | non : TyOf K H .non (.type "NoneType")
  | bl (x : Bool) : TyOf K H (.bl x) (.type "bool")
  | int (i : Int) : TyOf K H (.int i) (.type "int")
  | str (x : Str) : TyOf K H (.str x) (.type "str")
  | flt (x : UInt64) : TyOf K H (.flt x) (.type "float")
  | lst {a : Addr} {xs : List V} (e : H a = some (.lst xs)) : TyOf K H (.ref a) (.type "list")
  | frz {a : Addr} {o : Obj} {xs : List V} (e : H a = some (.frz o (.lst xs))) : TyOf K H (.ref a) (.type "list")
  | tup {a : Addr} {xs : List V} (e : H a = some (.tup xs)) : TyOf K H (.ref a) (.type "tuple")
  | dK {a : Addr} {kvs : List (Key × V)} (e : H a = some (.dK kvs)) : TyOf K H (.ref a) (.type "dict")
  | dT {a : Addr} {kvs : List (List Key × V)} (e : H a = some (.dT kvs)) : TyOf K H (.ref a) (.type "dict")
  | ins {a C dx : Addr} {fs : List (Str × V)} (e : H a = some (.ins C dx fs)) (cl : Cls K C) (ha : PySem.W.findIn K (.ref C) "__class__" = some (some (.builtin "object.__class__")))
      (hn : PySem.W.specialIn K (.builtin "object.__class__") "__get__" = some (some (.builtin "getset_descriptor.__get__"))) (htk : PySem.W.takesIn K (.builtin "object.__class__") = some true)
      (hm : PySem.W.mroIn K C (.type "object") = some true) : TyOf K H (.ref a) (.ref C)
theorem isinst_ok {x : V} {u t : Value} (I : Inv X pins σ H s) (rx : RelV x u) (ty : TyOf X.K H x t) (e : PySem.W.kitOne X.K t c = some b) (h : ∀ tk, Q (.bool b) { s with toks := tk }) :
    wpAny (model X.prog X.w) A (call (.builtin "isinstance") [u, c]) Q E s := by
  cases ty with
  | non => cases (show u = Value.none from rx); exact PySem.W.kia_one PySem.W.kitx_none I.kIn True.intro e (fun z => nomatch z) h
  | bl y => cases (show u = Value.bool y from rx); exact PySem.W.kia_one PySem.W.kitx_bool I.kIn True.intro e (fun z => nomatch z) h
  | int i => obtain ⟨t, q⟩ := (show ∃ t, u = Value.int i t from rx); cases q; exact PySem.W.kia_one PySem.W.kitx_int I.kIn True.intro e (fun z => nomatch z) h
  | str y => obtain ⟨t, q⟩ := (show ∃ t, u = Value.str y t from rx); cases q; exact PySem.W.kia_one PySem.W.kitx_str I.kIn True.intro e (fun z => nomatch z) h
  | flt y => obtain ⟨t, q⟩ := (show ∃ t, u = Value.float y t from rx); cases q; exact PySem.W.kia_one PySem.W.kitx_float I.kIn True.intro e (fun z => nomatch z) h
  | @lst a xs ea =>
    cases (show u = Value.ref a from rx)
    obtain ⟨_, _, n, _, h1⟩ := (show ObjOk X.prog X.w H s.heap a (.lst xs) from I.hok a _ ea)
    exact PySem.W.kia_one PySem.W.kitx_list I.kIn ⟨_, h1, rfl⟩ e (fun z => nomatch z) h
  | @frz a ob xs ea =>
    cases (show u = Value.ref a from rx)
    obtain ⟨_, _, _, n, _, h1⟩ := (show ObjOk X.prog X.w H s.heap a (.frz ob (.lst xs)) from I.hok a _ ea)
    exact PySem.W.kia_one PySem.W.kitx_list I.kIn ⟨_, h1, rfl⟩ e (fun z => nomatch z) h
  | @tup a xs ea =>
    cases (show u = Value.ref a from rx)
    obtain ⟨_, _, _, p⟩ := (show ObjOk X.prog X.w H s.heap a (.tup xs) from I.hok a _ ea)
    obtain ⟨o, h1, h2, _⟩ := p
    exact PySem.W.kia_one PySem.W.kitx_tuple I.kIn ⟨o, h1, h2⟩ e (fun z => nomatch z) h
  | @dK a kvs ea =>
    cases (show u = Value.ref a from rx)
    obtain ⟨_, _, vs, _, p⟩ := (show ObjOk X.prog X.w H s.heap a (.dK kvs) from I.hok a _ ea)
    obtain ⟨o, es, ep, h1, h2, _⟩ := p
    exact PySem.W.kia_one PySem.W.kitx_dict I.kIn ⟨o, h1, h2.1⟩ e (fun z => nomatch z) h
  | @dT a kvs ea =>
    cases (show u = Value.ref a from rx)
    obtain ⟨_, _, xs, _, o, es, ep, h1, h2, _⟩ := (show ObjOk X.prog X.w H s.heap a (.dT kvs) from I.hok a _ ea)
    exact PySem.W.kia_one PySem.W.kitx_dict I.kIn ⟨o, h1, h2.1⟩ e (fun z => nomatch z) h
  | @ins a C dx fs ea cl ha hn htk hm =>
    cases (show u = Value.ref a from rx)
    obtain ⟨mA, O, _⟩ := ins_get I.hok ea
    obtain ⟨od, J, _⟩ := O.look
    exact PySem.W.kia_one (PySem.W.kitx_own (cl.get _) cl.hd ha hn htk hm) I.kIn J e (fun z => nomatch z) h
end
end L2
namespace L2
open PySem PySem.Spec PyProof.Rows
structure Room (k : Nat) (A : Around) : Prop where
  hd : A.handled = none
  dp : A.depth + 3 * k + 5 < recursionLimit
  un : A.units + 16 * k + 200 < cLine
theorem Room.mono {j k : Nat} {A : Around} (r : Room k A) (h : j ≤ k) : Room j A := ⟨r.hd, by have := r.dp; omega, by have := r.un; omega⟩
theorem Room.deeper {k : Nat} {A : Around} (r : Room (k + 1) A) (env : Env) : Room k (A.deeper env) :=
  ⟨r.hd, by have := r.dp; show A.depth + 1 + 3 * k + 5 < _; omega, by have := r.un; show A.units + 3 + 16 * k + 200 < _; omega⟩
theorem Room.in1 {k : Nat} {A : Around} (r : Room (k + 1) A) : Room k A.in1 :=
  ⟨r.hd, by have := r.dp; show A.depth + 3 * k + 5 < _; omega, by have := r.un; show A.units + 1 + 16 * k + 200 < _; omega⟩
theorem make_depth {A : Around} {C : Addr} {us : List Value} {kw : List (Str × Value)} : (A.under (.builtin "type.__call__" ⟨.ref C :: us, kw⟩)).depth = A.depth + 1 := by
  first | rfl | simp [Around.under, Code.weight, Code.isCreation, Code.isGuard, Code.isCaller, Code.frames, Code.isFrame, guardIds]
theorem make_units {A : Around} {C : Addr} {us : List Value} {kw : List (Str × Value)} : (A.under (.builtin "type.__call__" ⟨.ref C :: us, kw⟩)).units = A.units + 1 := by
  first | rfl | simp [Around.under, Code.cUnits, Code.frames, Code.isFrame]
theorem Room.make {k : Nat} {A : Around} (r : Room (k + 1) A) (C : Addr) (us : List Value) (kw : List (Str × Value)) : Room k (A.under (.builtin "type.__call__" ⟨.ref C :: us, kw⟩)) :=
  ⟨r.hd, by have := r.dp; rw [make_depth]; omega, by have := r.un; rw [make_units]; omega⟩
theorem Room.depth {k : Nat} {A : Around} (r : Room k A) : A.depth < recursionLimit := by have := r.dp; omega
theorem Room.units {k : Nat} {A : Around} (r : Room k A) : A.units + 64 < cLine := by have := r.un; omega
def tNil : TA := fun _ H Q => Q [] H
def tCons (ta : TE) (tr : TA) : TA := fun σ H Q => ta σ H fun x H1 => tr σ H1 fun xs H2 => Q (x :: xs) H2
section
variable {X : Cx} {e : Expr} {es : List Expr} {te : TE} {t : TA} {pos : Pos}
theorem pa_nil : PA X [] tNil := fun _ _ _ _ H Q I h => Calls.spliced_nil ⟨[], H, I, .nil, h⟩
theorem pa_cons (ha : PE X e te) (hr : PA X es t) (hs : starEach (e :: es) X.env = (false, eval e X.env) :: starEach es X.env := by rfl) : PA X (e :: es) (tCons te t) := by
  intro pos pins s σ H Q I h
  rw [hs]
  show wpAny _ _ (spliced ((false, eval e X.env) :: backTo pos (starEach es X.env))) _ _ s
  refine Calls.spliced_cons (thn (ha pins s σ H _ I h) fun u s1 ⟨x, H1, I1, r1, q1⟩ => ?_)
  exact thn (hr pos pins s1 σ H1 _ I1 q1) fun us s2 ⟨xs, H2, I2, r2, q2⟩ => ⟨x :: xs, H2, I2, .cons r1 r2, q2⟩
end
abbrev Sp := List V → Hp → VK → XK → Prop
abbrev CXT := List Env → Hp → Shared → XK → Value → Shared → Prop
structure Env0 (P : Program) (w : World) (K : PySem.W.Frag) (mg : Str → Option Value) (base : Heap) (A : Around) (outer : List Env) (s : Shared) (H : Hp) : Prop where
  frames : A.frames = some outer
  mod : Mod K mg base
  bs : ∀ b o, base.get? b = some o → s.heap.get? b = some o ∧ H b = none
  bsz : base.objs.size ≤ s.heap.objs.size
  funs : s.heap.FunFrames base outer
  frf : ∀ b ∈ frs outer, H b = none
  hok : HOk P w H s.heap
  bare : AllBare s.gens
def CE (outer : List Env) (P : Program) (w : World) (H : Hp) (s : Shared) (Q : VK) (u : Value) (s' : Shared) : Prop :=
  ∃ v H', s'.os = s.os ∧ AllBare s'.gens ∧ Un (frs outer) [] H H' s.heap s'.heap ∧ HOk P w H' s'.heap ∧ RelV v u ∧ Q v H'
def CR (CX : CXT) (outer : List Env) (P : Program) (w : World) (H : Hp) (s : Shared) (Q : VK) (E : XK) (r : Result) (s' : Shared) : Prop :=
  match r with
  | .ok (.ret u) => CE outer P w H s Q u s'
  | .ok _ => False
  | .error e => CX outer H s E e s'
structure FnOk (P : Program) (w : World) (K : PySem.W.Frag) (mg : Str → Option Value) (base : Heap) (CX : CXT) (k : Nat) (f : Addr) (fd : FuncData) (ps : List Str) (sp : Sp) : Prop where
  len : ∀ vs H Q E, sp vs H Q E → vs.length = ps.length
  run : ∀ (A : Around) (outer : List Env) (s : Shared) (H : Hp) (args : Args) (us : List Value) (vs : List V) (Q : VK) (E : XK), Room k A → Env0 P w K mg base A outer s H → BindsTo s fd args (ps.zip us) → Vals vs us → sp vs H Q E →
    codeAny (model P w) A (.call (.ref f) args) (CR CX outer P w H s Q E) s
theorem FnOk.mono {P : Program} {w : World} {K : PySem.W.Frag} {mg : Str → Option Value} {base : Heap} {CX : CXT} {j k : Nat} {f : Addr} {fd : FuncData} {ps : List Str} {sp : Sp} (F : FnOk P w K mg base CX j f fd ps sp) (h : j ≤ k) :
    FnOk P w K mg base CX k f fd ps sp := ⟨F.len, fun A outer s H args us vs Q E hr => F.run A outer s H args us vs Q E (hr.mono h)⟩
theorem FnOk.imp {P : Program} {w : World} {K : PySem.W.Frag} {mg : Str → Option Value} {base : Heap} {CX : CXT} {k : Nat} {f : Addr} {fd : FuncData} {ps : List Str} {sp sp' : Sp} (F : FnOk P w K mg base CX k f fd ps sp)
    (h : ∀ vs H Q E, sp' vs H Q E → sp vs H Q E) : FnOk P w K mg base CX k f fd ps sp' :=
  ⟨fun vs H Q E q => F.len vs H Q E (h _ _ _ _ q), fun A outer s H args us vs Q E hr he hb hv hs => F.run A outer s H args us vs Q E hr he hb hv (h _ _ _ _ hs)⟩
theorem Env0.make {P : Program} {w : World} {K : PySem.W.Frag} {mg : Str → Option Value} {base : Heap} {A : Around} {outer : List Env} {s : Shared} {H : Hp} (e : Env0 P w K mg base A outer s H) (C : Addr) (us : List Value) (kw : List (Str × Value)) :
    Env0 P w K mg base (A.under (.builtin "type.__call__" ⟨.ref C :: us, kw⟩)) outer s H := ⟨by first | exact e.frames | (simpa [Around.under, Code.envs, Code.isFrame, pushEnvs] using e.frames), e.mod, e.bs, e.bsz, e.funs, e.frf, e.hok, e.bare⟩
theorem Env0.in1 {P : Program} {w : World} {K : PySem.W.Frag} {mg : Str → Option Value} {base : Heap} {A : Around} {outer : List Env} {s : Shared} {H : Hp} (e : Env0 P w K mg base A outer s H) :
    Env0 P w K mg base A.in1 outer s H := ⟨e.frames, e.mod, e.bs, e.bsz, e.funs, e.frf, e.hok, e.bare⟩
section
variable {X : Cx} {pins : List (Addr × Obj)} {σ : St} {H : Hp} {s s' : Shared}
theorem Inv.env0 (I : Inv X pins σ H s) : Env0 X.prog X.w X.K X.mg X.base X.A X.stack s H :=
  ⟨I.ok.frames, I.ok.mod, I.bs, Nat.le_trans I.ok.bsz I.sz, I.stack, I.stkFree, I.hok, I.bare⟩
theorem Inv.after {Q : VK} {u : Value} (I : Inv X pins σ H s) (h : CE X.stack X.prog X.w H s Q u s') : EP X pins σ Q u s' := by
  obtain ⟨v, H', os, bare, un, hok, r, q⟩ := h
  obtain ⟨hh, g, d, t, os'⟩ := s'
  obtain rfl : os' = s.os := os
  exact ⟨v, H', I.call (h' := hh) (g' := g) (d' := d) (t' := t) (ch := []) un hok bare (fun b z => absurd z (by simp)), r, q⟩
end
def tCall (sp : Sp) (dvs : List V) (E : XK) (t : TA) : TE := fun σ H Q => t σ H fun vs H1 => sp (vs ++ dvs) H1 Q E
def tMeth (C : Addr) (m : Str) (sp : Sp) (dvs : List V) (E : XK) (ta : TE) (t : TA) : TE := fun σ H Q => ta σ H fun x H1 => ∃ a dx fs, x = .ref a ∧ H1 a = some (.ins C dx fs) ∧ fs.lookup m = none ∧
  t σ H1 fun vs H2 => sp (x :: (vs ++ dvs)) H2 Q E
def tMake (C : Addr) (sp : Sp) (dvs : List V) (E : XK) (t : TA) : TE := fun σ H Q => t σ H fun vs H1 => ∀ x dx, H1 x = none → H1 dx = none → dx ≠ x →
  sp (.ref x :: (vs ++ dvs)) (upd (upd H1 dx (.own x)) x (.ins C dx [])) (fun v H2 => v = .non ∧ Q (.ref x) H2) E
def Binds (K : PySem.W.Frag) (fd : FuncData) (ps : List Str) (ds : List Value) : Prop :=
  ∀ (s : Shared) (us : List Value), K.In s.heap → (us ++ ds).length = ps.length → BindsTo s fd ⟨us, []⟩ (ps.zip (us ++ ds))
theorem Binds.all {K : PySem.W.Frag} {fd : FuncData} {ps : List Str} (h : ∀ us : List Value, us.length = ps.length → bindArgs fd ⟨us, []⟩ = pure (ps.zip us)) : Binds K fd ps [] := fun s us _ hl => by
  rw [List.append_nil] at hl ⊢
  exact .of_eq (h us hl)
def Passes (CX : CXT) (X : Cx) (E : XK) : Prop := ∀ (pins : List (Addr × Obj)) (σ : St) (H : Hp) (s : Shared) (e : Value) (s' : Shared), Inv X pins σ H s → CX X.stack H s E e s' → X.xe e s'
section
variable {X : Cx} {CX : CXT} {k : Nat} {f C : Addr} {fd : FuncData} {ps : List Str} {sp : Sp} {dvs : List V} {ds : List Value} {E : XK} {x m : Str} {p pos apos : Pos} {e o : Expr} {es : List Expr} {ta : TE} {t : TA}
theorem run_fn {pins : List (Addr × Obj)} {σ : St} {H : Hp} {s : Shared} {Q : VK} {us : List Value} {vs : List V} (F : FnOk X.prog X.w X.K X.mg X.base CX k f fd ps sp) (hr : Room k X.A) (hb : Binds X.K fd ps ds) (hd : Vals dvs ds) (hx : Passes CX X E)
    (I : Inv X pins σ H s) (r : Vals vs us) (h : sp (vs ++ dvs) H Q E) : wpAny (model X.prog X.w) X.A (call (.ref f) us) (EP X pins σ Q) X.xe s := by
  have r2 : Vals (vs ++ dvs) (us ++ ds) := r.append hd
  have hl : (us ++ ds).length = ps.length := by rw [← r2.length]; exact F.len _ _ _ _ h
  refine wpAny_call (codeAny_mono (F.run X.A X.stack s H ⟨us, []⟩ (us ++ ds) (vs ++ dvs) Q E hr I.env0 (hb s us I.kIn hl) r2 h) fun r s' hq => ?_)
  cases r with
  | error e => exact hx pins σ H s e s' I hq
  | ok fl =>
    cases fl with
    | ret u => exact I.after hq
    | next => exact False.elim hq
    | brk => exact False.elim hq
    | cont => exact False.elim hq
theorem pe_call (F : FnOk X.prog X.w X.K X.mg X.base CX k f fd ps sp) (hr : Room k X.A) (hg : Gl X x) (hm : X.mg x = some (.ref f)) (hk : PySem.W.keepIn X.K (.ref f) = true) (hb : Binds X.K fd ps ds) (hd : Vals dvs ds) (hx : Passes CX X E)
    (ha : PA X (e :: es) t) (hdb : (x == ("__debug__" : Str)) = false := by decide) (he : starEach (e :: es) X.env = (false, eval e X.env) :: starEach es X.env := by rfl) (hpl : (backTo pos (starEach es X.env)).any (·.1) = false := by rfl) :
    PE X (.Call (.Name x p) (e :: es) [] pos) (tCall sp dvs E t) := by
  intro pins s σ H Q I h
  refine wpAny_Call_Name_kw (ld_glob I hg hm ?_ hdb)
  refine PySem.W.callWith_K (h₀ := X.base) I.ok.mod.kin hk (thn (ha pos pins s σ H _ I h) fun us s1 ⟨vs, H1, I1, r, q⟩ => ⟨I1.kIn, ?_⟩) he hpl
  exact run_fn F hr hb hd hx I1 r q
theorem pe_meth {pl : Sem Bool} (he : PE X o ta) (c : Cls X.K C) (hm : Meth X.K C m f) (F : FnOk X.prog X.w X.K X.mg X.base CX k f fd ps sp) (hr : Room k X.A) (hb : Binds X.K fd ps ds) (hd : Vals dvs ds) (hx : Passes CX X E) (ha : PA X (e :: es) t)
    (hst : starEach (e :: es) X.env = (false, eval e X.env) :: starEach es X.env := by rfl) (hpl : (backTo pos (starEach es X.env)).any (·.1) = false := by rfl)
    (ht : eval (.Call (.Attribute o m apos) (e :: es) [] pos) X.env = (do
      let ov ← eval o X.env
      standAt apos.atName
      let (f, first) ← holding [ov] (getMethod ov m pl)
      callWith pos f first (backTo pos (starEach (e :: es) X.env)) (backToKw pos (keywordEach [] X.env))) := by rfl) :
    PE X (.Call (.Attribute o m apos) (e :: es) [] pos) (tMeth C m sp dvs E ta t) := by
  intro pins s σ H Q I h
  refine PySem.W.methodCall_KW (pl := pl) (thn (he pins s σ H _ I h) fun u s1 ⟨x, H1, I1, rx, a, dx, fs, ex, ea, l, q⟩ => ?_) ht
  subst ex
  obtain rfl : u = Value.ref a := rx
  refine getmeth_ok I1 ea c hm l ?_
  refine PySem.W.callWith_K (first := [.ref a]) (h₀ := X.base) I.ok.mod.kin hm.kp (thn (ha pos pins s1 σ H1 _ I1 q) fun us s2 ⟨vs, H2, I2, r, q2⟩ => ⟨I2.kIn, ?_⟩) hst hpl
  exact run_fn (us := .ref a :: us) (vs := .ref a :: vs) F hr hb hd hx I2 (.cons rfl r) q2
theorem pe_meth0 {pl : Sem Bool} (he : PE X o ta) (c : Cls X.K C) (hm : Meth X.K C m f) (F : FnOk X.prog X.w X.K X.mg X.base CX k f fd ps sp) (hr : Room k X.A) (hb : Binds X.K fd ps ds) (hd : Vals dvs ds) (hx : Passes CX X E)
    (ht : eval (.Call (.Attribute o m apos) [] [] pos) X.env = (do
      let ov ← eval o X.env
      standAt apos.atName
      let (f, first) ← holding [ov] (getMethod ov m pl)
      callWith pos f first (backTo pos (starEach [] X.env)) (backToKw pos (keywordEach [] X.env))) := by rfl) :
    PE X (.Call (.Attribute o m apos) [] [] pos) (tMeth C m sp dvs E ta tNil) := by
  intro pins s σ H Q I h
  refine PySem.W.methodCall_KW (pl := pl) (thn (he pins s σ H _ I h) fun u s1 ⟨x, H1, I1, rx, a, dx, fs, ex, ea, l, q⟩ => ?_) ht
  subst ex
  obtain rfl : u = Value.ref a := rx
  refine getmeth_ok I1 ea c hm l ?_
  exact PySem.W.callWith_K0 (first := [.ref a]) I1.kIn hm.kp (run_fn (us := [.ref a]) (vs := [.ref a]) F hr hb hd hx I1 (.cons rfl .nil) q)
structure Mk (K : PySem.W.Frag) (C f : Addr) : Prop where
  makes : PySem.W.makesIn K C = true
  init : PySem.W.findIn K (.ref C) "__init__" = some (some (.ref f))
  fn : PySem.W.isFn K (.ref f) = true
  kp : PySem.W.keepIn K (.ref C) = true
theorem run_make {pins : List (Addr × Obj)} {σ : St} {H : Hp} {s : Shared} {Q : VK} {us : List Value} {vs : List V} (M : Mk X.K C f) (F : FnOk X.prog X.w X.K X.mg X.base CX k f fd ps sp) (hr : Room (k + 1) X.A) (hb : Binds X.K fd ps ds) (hd : Vals dvs ds)
    (hx : Passes CX X E) (I : Inv X pins σ H s) (r : Vals vs us)
    (h : ∀ x dx, H x = none → H dx = none → dx ≠ x → sp (.ref x :: (vs ++ dvs)) (upd (upd H dx (.own x)) x (.ins C dx [])) (fun v H2 => v = .non ∧ Q (.ref x) H2) E) :
    wpAny (model X.prog X.w) X.A (call (.ref C) us) (EP X pins σ Q) X.xe s := by
  have hq := h (s.heap.objs.size + 1) s.heap.objs.size (I.hok.fresh (Nat.le_succ _)) (I.hok.fresh (Nat.le_refl _)) (Nat.ne_of_lt (Nat.lt_succ_self _))
  have I2 := Inv.made (C := C) I
  have r2 : Vals (V.ref (s.heap.objs.size + 1) :: (vs ++ dvs)) (Value.ref (s.heap.objs.size + 1) :: (us ++ ds)) := .cons rfl (r.append hd)
  have hl : (Value.ref (s.heap.objs.size + 1) :: us ++ ds).length = ps.length := by
    have e := r2.length
    rw [F.len _ _ _ _ hq] at e
    exact e.symm
  refine wpAny_call (make_map (f := f) I.kIn M.makes M.init (beq_iff_eq.mp M.fn) (codeAny_mono (F.run _ X.stack _ _ ⟨Value.ref (s.heap.objs.size + 1) :: us, []⟩ (Value.ref (s.heap.objs.size + 1) :: (us ++ ds)) _ _ E (hr.make C us [])
    (I2.env0.make C us []) (hb _ (Value.ref (s.heap.objs.size + 1) :: us) I2.kIn hl) r2 hq) fun r s' hq' => ?_))
  cases r with
  | error e => exact hx pins σ _ _ e s' I2 hq'
  | ok fl =>
    cases fl with
    | ret u =>
      obtain ⟨v, H', I3, rv, ev, q3⟩ := I2.after hq'
      subst ev
      exact ⟨rv, ⟨V.ref (s.heap.objs.size + 1), H', I3, rfl, q3⟩⟩
    | next => exact False.elim hq'
    | brk => exact False.elim hq'
    | cont => exact False.elim hq'
theorem pe_make (M : Mk X.K C f) (F : FnOk X.prog X.w X.K X.mg X.base CX k f fd ps sp) (hr : Room (k + 1) X.A) (hg : Gl X x) (hm : X.mg x = some (.ref C)) (hb : Binds X.K fd ps ds) (hd : Vals dvs ds) (hx : Passes CX X E)
    (ha : PA X (e :: es) t) (hdb : (x == ("__debug__" : Str)) = false := by decide) (he : starEach (e :: es) X.env = (false, eval e X.env) :: starEach es X.env := by rfl) (hpl : (backTo pos (starEach es X.env)).any (·.1) = false := by rfl) :
    PE X (.Call (.Name x p) (e :: es) [] pos) (tMake C sp dvs E t) := by
  intro pins s σ H Q I h
  refine wpAny_Call_Name_kw (ld_glob I hg hm ?_ hdb)
  refine PySem.W.callWith_K (h₀ := X.base) I.ok.mod.kin M.kp (thn (ha pos pins s σ H _ I h) fun us s1 ⟨vs, H1, I1, r, q⟩ => ⟨I1.kIn, ?_⟩) he hpl
  exact run_make M F hr hb hd hx I1 r q
end
def PK (X : Cx) (kws : List Keyword) (t : TA) : Prop :=
  ∀ (pos : Pos) (pins : List (Addr × Obj)) (s : Shared) (σ : St) (H : Hp) (Q : List V → Hp → Prop), Inv X pins σ H s → t σ H Q → wpAny (model X.prog X.w) X.A (evalAll ((backToKw pos (keywordEach kws X.env)).map (·.2))) (AP X pins σ Q) X.xe s
section
variable {X : Cx} {CX : CXT} {k : Nat} {f C : Addr} {fd : FuncData} {ps ks : List Str} {sp : Sp} {E : XK} {x m : Str} {p pos apos kpos : Pos} {e o : Expr} {es : List Expr} {kws : List Keyword} {te ta : TE} {t tk : TA} {nm : Option Str}
theorem pk_nil : PK X [] tNil := fun _ _ _ _ H Q I h => wpAny_evalAll_nil ⟨[], H, I, .nil, h⟩
theorem pk_cons (ha : PE X e te) (hr : PK X kws t) : PK X (⟨nm, e, kpos⟩ :: kws) (tCons te t) := by
  intro pos pins s σ H Q I h
  show wpAny _ _ (evalAll ((do let v ← eval e X.env; standAt pos; pure v) :: (backToKw pos (keywordEach kws X.env)).map (·.2))) _ _ s
  refine wpAny_evalAll_cons (wpAny_bind (thn (ha pins s σ H _ I h) fun u s1 ⟨x, H1, I1, r1, q1⟩ => wpAny_bind (wpAny_standAt (wpAny_pure ?_))))
  exact thn (hr pos pins s1 σ H1 _ I1 q1) fun us s2 ⟨xs, H2, I2, r2, q2⟩ => ⟨x :: xs, H2, I2, .cons r1 r2, q2⟩
structure KBinds (K : PySem.W.Frag) (fd : FuncData) (ps ks : List Str) (g : List Value → List Value → List Value) (gV : List V → List V → List V) : Prop where
  to : ∀ (s : Shared) (us ws : List Value), K.In s.heap → (g us ws).length = ps.length → BindsTo s fd ⟨us, ks.zip ws⟩ (ps.zip (g us ws))
  rel : ∀ {vs : List V} {us : List Value} {zs : List V} {ws : List Value}, Vals vs us → Vals zs ws → Vals (gV vs zs) (g us ws)
variable {g : List Value → List Value → List Value} {gV : List V → List V → List V}
end
structure FnScope (N P : List Str) (sc : Scope) : Prop where
  kind : sc.kind = .function
  co : sc.isCoroutine = false
  gen : sc.isGenerator = false
  nd : N.Nodup
  pre : N.take P.length = P
  par : ∀ x ∈ P, sc.names.lookup x = some .local ∨ sc.names.lookup x = some .cell
  nofree : ∀ y ∈ sc.names, y.2 ≠ .free
theorem bindL_out {kindOf : Str → Option NameKind} {x : Str} : ∀ {binds : List (Str × Value)} {m : Str → Option Value}, (∀ v, (x, v) ∉ binds) → bindL kindOf binds m x = m x
  | [], _, _ => rfl
  | (n, v) :: r, m, h => by
    unfold bindL
    rw [bindL_out fun w hw => h w (List.mem_cons_of_mem _ hw)]
    split
    · have : x ≠ n := by rintro rfl; exact h v List.mem_cons_self
      simp [this]
    · rfl
theorem bindC_out {kindOf : Str → Option NameKind} {x : Str} : ∀ {binds : List (Str × Value)} {m : Str → Option Value}, (∀ v, (x, v) ∉ binds) → bindC kindOf binds m x = m x
  | [], _, _ => rfl
  | (n, v) :: r, m, h => by
    unfold bindC
    rw [bindC_out fun w hw => h w (List.mem_cons_of_mem _ hw)]
    split
    · rfl
    · have : x ≠ n := by rintro rfl; exact h v List.mem_cons_self
      simp [this]
theorem bindL_get {kindOf : Str → Option NameKind} {x : Str} {v : Value} : ∀ {P : List Str} {vs : List Value} {i : Nat} {m : Str → Option Value}, P.Nodup → P[i]? = some x → vs[i]? = some v → kindOf x = some .local →
    bindL kindOf (P.zip vs) m x = some v
  | [], _, _, _, _, h, _, _ => by simp at h
  | _ :: _, [], _, _, _, _, h, _ => by simp at h
  | p :: P, w :: vs, 0, m, nd, h1, h2, hk => by
    simp at h1 h2; subst h1; subst h2
    show bindL kindOf ((p, w) :: P.zip vs) m p = _
    unfold bindL
    rw [bindL_out fun v hv => (List.nodup_cons.mp nd).1 (List.of_mem_zip hv).1, if_pos hk]
    simp
  | p :: P, w :: vs, i + 1, m, nd, h1, h2, hk => by
    show bindL kindOf ((p, w) :: P.zip vs) m x = _
    unfold bindL
    exact bindL_get (i := i) (List.nodup_cons.mp nd).2 (by simpa using h1) (by simpa using h2) hk
theorem bindC_get {kindOf : Str → Option NameKind} {x : Str} {v : Value} : ∀ {P : List Str} {vs : List Value} {i : Nat} {m : Str → Option Value}, P.Nodup → P[i]? = some x → vs[i]? = some v → kindOf x ≠ some .local →
    bindC kindOf (P.zip vs) m x = some v
  | [], _, _, _, _, h, _, _ => by simp at h
  | _ :: _, [], _, _, _, _, h, _ => by simp at h
  | p :: P, w :: vs, 0, m, nd, h1, h2, hk => by
    simp at h1 h2; subst h1; subst h2
    show bindC kindOf ((p, w) :: P.zip vs) m p = _
    unfold bindC
    rw [bindC_out fun v hv => (List.nodup_cons.mp nd).1 (List.of_mem_zip hv).1, if_neg hk]
    simp
  | p :: P, w :: vs, i + 1, m, nd, h1, h2, hk => by
    show bindC kindOf ((p, w) :: P.zip vs) m x = _
    unfold bindC
    exact bindC_get (i := i) (List.nodup_cons.mp nd).2 (by simpa using h1) (by simpa using h2) hk
def start (N : List Str) (vs : List V) : St := vs.map some ++ List.replicate (N.length - vs.length) none
def cxOf (CX : CXT) (P : Program) (w : World) (K : PySem.W.Frag) (mg : Str → Option Value) (base : Heap) (N : List Str) (qual : Str) (scope : Scope) (f : Addr) (cd : Value) (A : Around) (outer : List Env) (s : Shared) (H : Hp) (E : XK) : Cx where
  prog := P
  w := w
  K := K
  mg := mg
  base := base
  A := A.deeper (envOfC qual scope s.heap.objs.size f cd)
  N := N
  s₀ := s
  H₀ := H
  env := envOfC qual scope s.heap.objs.size f cd
  outer := outer
  stack := envOfC qual scope s.heap.objs.size f cd :: outer
  ex := []
  calm := true
  fn := fun _ => true
  pn := []
  xe := fun e s' => wpAny (model P w) (A.deeper (envOfC qual scope s.heap.objs.size f cd)) (leaving (envOfC qual scope s.heap.objs.size f cd) e) (fun _ s'' => CX outer H s E e s'') (fun e' s'' => CX outer H s E e' s'') s'
theorem cell_has {sc : Scope} {n : Nat} {x : Str} (h : sc.names.lookup x = some .cell) : ∃ c, (cellsFrom n sc.names []).lookup x = some c := by
  have q := PySem.W.cellsFrom_some sc.names n [] (.inl h)
  exact Option.isSome_iff_exists.mp q
theorem inv_start {CX : CXT} {P : Program} {w : World} {K : PySem.W.Frag} {mg : Str → Option Value} {base : Heap} {N ps : List Str} {qual : Str} {scope : Scope} {f : Addr} {cd : Value} {A : Around} {outer : List Env} {s s1 : Shared} {H : Hp} {E : XK} {us : List Value} {vs : List V}
    (S : FnScope N ps scope) (hd : A.handled = none) (e0 : Env0 P w K mg base A outer s H) (hl : vs.length = ps.length) (r : Vals vs us)
    (x : InCallC s s.heap.objs.size (bindL (envOfC qual scope s.heap.objs.size f cd).kindOf (ps.zip us) fun _ => none) (cellsFrom (s.heap.objs.size + 1) scope.names []) (bindC (envOfC qual scope s.heap.objs.size f cd).kindOf (ps.zip us) fun _ => none) s1) :
    Inv (cxOf CX P w K mg base N qual scope f cd A outer s H E) [] (start N vs) H s1 := by
  have hpl : ps.length ≤ N.length := by have := congrArg List.length S.pre; rw [List.length_take] at this; omega
  obtain ⟨h1, tk, rfl, hk⟩ := x.done
  have noA : ∀ b : Addr, b ∉ (cxOf CX P w K mg base N qual scope f cd A outer s H E).ex := fun b z => absurd (show b ∈ ([] : List Addr) from z) (by simp)
  refine ⟨⟨e0.mod, S.kind, rfl, rfl, Nat.le_refl _, fun y z c h1 h2 => ?_, fun y hy => ?_, fun y c _ h => ?_, fun _ => hd, Around.frames_deeper e0.frames, .inr ⟨rfl, rfl⟩, fun b z => absurd z (noA b), e0.bs, e0.bsz, fun b _ _ => noA b, fun b z => absurd z (noA b), e0.funs, e0.frf⟩,
    rfl, e0.bare, Un.kept hk, ⟨_, x.toInCall.ns, fun i y v h1 h2 h3 => ?_⟩, fun y c h => ⟨_, x.cell y c h⟩, e0.hok.fresh (Nat.le_refl _), fun y c h => ?_, fun p hp => absurd (show p ∈ ([] : List (Addr × Obj)) from hp) (by simp), e0.hok.kept hk, ?_⟩
  · exact name_of_addr x.apart (PySem.mem_of_lookup h1) (PySem.mem_of_lookup h2)
  · have hy : scope.names.lookup y = some .cell ∨ scope.names.lookup y = some .free := hy
    rcases hy with hy | hy
    · exact cell_has hy
    · exact absurd rfl (S.nofree _ (PySem.mem_of_lookup hy))
  · exact Nat.le_of_lt (x.above y c (PySem.mem_of_lookup h))
  · have hi : i < vs.length := by
      unfold start at h2
      by_cases hi : i < vs.length
      · exact hi
      · rw [List.getElem?_append_right (by simpa using hi)] at h2
        rw [List.getElem?_replicate] at h2
        split at h2 <;> cases h2
    have ha : vs[i]? = some v := by
      unfold start at h2
      rw [List.getElem?_append_left (by simpa using hi), List.getElem?_map] at h2
      cases e : vs[i]? with
      | none => rw [e] at h2; cases h2
      | some a => rw [e] at h2; cases h2; rfl
    obtain ⟨u, hu, rv⟩ := r.get ha
    have hp : ps[i]? = some y := by
      rw [← S.pre, List.getElem?_take_of_lt (by omega)]; exact h1
    have ndP : ps.Nodup := by rw [← S.pre]; exact S.nd.sublist (List.take_sublist _ _)
    refine ⟨u, rv, ?_⟩
    rcases S.par y (List.mem_of_getElem? hp) with k | k
    · exact .inl ⟨k, bindL_get ndP hp hu k⟩
    · obtain ⟨c, e⟩ := cell_has (n := s.heap.objs.size + 1) k
      refine .inr ⟨.inl k, c, e, ?_⟩
      have q := x.cell y c e
      rw [bindC_get ndP hp hu (by show scope.names.lookup y ≠ _; rw [k]; decide)] at q
      exact q
  · exact e0.hok.fresh (Nat.le_of_lt (x.above y c (PySem.mem_of_lookup h)))
  · unfold start
    show _ = N.length
    rw [List.length_append, List.length_map, List.length_replicate]
    omega
theorem fn_of {CX : CXT} {P : Program} {w : World} {K : PySem.W.Frag} {mg : Str → Option Value} {base : Heap} {k : Nat} {f : Addr} {name qual : Str} {params : Arguments} {body : List Stmt} {scope : Scope} {dV kV doc pm cdv ct oc : Value} {an od : Option Addr}
    {osl : Array (Option Value)} {N ps : List Str} {sp : Sp} (lk : K.lookup f = some ⟨oc, od, .func (PySem.W.fnOf name qual params body scope dV kV doc pm an cdv ct), osl⟩) (hcd : PySem.W.codeIn K cdv qual = true) (S : FnScope N ps scope)
    (len : ∀ vs H Q E, sp vs H Q E → vs.length = ps.length)
    (hbody : ∀ (A : Around) (outer : List Env) (s : Shared) (H : Hp) (vs : List V) (Q : VK) (E : XK), Room k (A.deeper (envOfC qual scope s.heap.objs.size f cdv)) → sp vs H Q E →
      ∃ t, PSs (cxOf CX P w K mg base N qual scope f cdv A outer s H E) body t ∧ t { nx := fun _ H' => Q .non H', rt := Q } (start N vs) H) :
    FnOk P w K mg base CX (k + 1) f (PySem.W.fnOf name qual params body scope dV kV doc pm an cdv ct) ps sp := by
  refine ⟨len, fun A outer s H args us vs Q E hr e0 hb r hsp => ?_⟩
  have hl := len _ _ _ _ hsp
  have KX : K.In s.heap := e0.mod.kin.keeps fun b o e => (e0.bs b o e).1
  have lim : s.heap.NoLimit := e0.mod.nolimit.keeps fun b o e => (e0.bs b o e).1
  have hkind : ∀ y ∈ ps.zip us, scope.names.lookup y.1 = some .local ∨ (scope.names.lookup y.1 = some .cell ∧ ((cellsFrom (s.heap.objs.size + 1) scope.names []).lookup y.1).isSome = true) := fun ⟨n, v⟩ hy => by
    rcases S.par n (List.of_mem_zip hy).1 with q | q
    · exact .inl q
    · exact .inr ⟨q, PySem.W.cellsFrom_some _ _ _ (.inl q)⟩
  refine codeAny_call_function hr.depth (KX _ _ lk) rfl S.co S.gen rfl (PySem.W.codeRec_of KX hcd) (hb _ _ _ _ ?_)
  refine wpAny_newFunctionEnv_cells S.kind hkind fun env he s1 x => ?_
  subst he
  refine ⟨lim.keeps x.toInCall.keep, codeAny_func ?_⟩
  obtain ⟨t, ht, hq⟩ := hbody A outer s H vs Q E (hr.deeper _) hsp
  have I : Inv (cxOf CX P w K mg base N qual scope f cdv A outer s H E) [] (start N vs) H s1 := inv_start S hr.hd e0 hl r x
  refine wpAny_mono (ht [] s1 (start N vs) H _ I hq) (fun fl s' hs => ?_) fun e s' hs => hs
  have fin : ∀ {σ' : St} {H' : Hp} {v : V} {u : Value}, Inv (cxOf CX P w K mg base N qual scope f cdv A outer s H E) [] σ' H' s' → RelV v u → Q v H' → CE outer P w H s Q u s' :=
    fun {σ' H' v u} J rv q => ⟨v, H', J.os, J.bare, J.base, J.hok, rv, q⟩
  cases fl with
  | ret u =>
    obtain ⟨v, σ', H', J, rv, q⟩ := hs
    exact fin J rv q
  | next =>
    obtain ⟨σ', H', J, q⟩ := hs
    exact fin (v := V.non) (u := Value.none) J rfl q
  | brk =>
    obtain ⟨_, _, _, q⟩ := hs
    exact False.elim q
  | cont =>
    obtain ⟨_, _, _, q⟩ := hs
    exact False.elim q
end L2
namespace L2
open PySem PySem.Spec PyProof.Rows
section
variable {X : Cx} {x : Str} {p pos : Pos} {e : Expr} {es : List Expr} {t : TA} {id T : String} {r : List V → Hp → VK → Prop}
def tCB (r : List V → Hp → VK → Prop) (t : TA) : TE := fun σ H Q => t σ H fun vs H1 => r vs H1 Q
theorem pe_callB (hc : CallR X (.builtin id) r) (hg : Gl X x) (hm : X.mg x = none) (hv : bootBuiltins x = some (.builtin id)) (ha : PA X (e :: es) t) (hn : x ≠ "__name__" := by decide) (hdb : (x == ("__debug__" : Str)) = false := by decide)
    (he : starEach (e :: es) X.env = (false, eval e X.env) :: starEach es X.env := by rfl) (hpl : (backTo pos (starEach es X.env)).any (·.1) = false := by rfl) : PE X (.Call (.Name x p) (e :: es) [] pos) (tCB r t) := by
  intro pins s σ H Q I h
  refine wpAny_Call_Name_kw (ld_blt I hg hm hv ?_ hn hdb)
  exact PyProof.Rows.callWith_builtin1 (thn (ha pos pins s σ H _ I h) fun us s1 ⟨vs, H1, I1, r1, q1⟩ => hc pins s1 σ H1 vs us Q I1 r1 q1) he hpl
theorem pe_callTy (hc : CallR X (.type T) r) (hg : Gl X x) (hm : X.mg x = none) (hv : bootBuiltins x = some (.type T)) (ha : PA X (e :: es) t) (hn : x ≠ "__name__" := by decide) (hdb : (x == ("__debug__" : Str)) = false := by decide)
    (he : starEach (e :: es) X.env = (false, eval e X.env) :: starEach es X.env := by rfl) (hpl : (backTo pos (starEach es X.env)).any (·.1) = false := by rfl) : PE X (.Call (.Name x p) (e :: es) [] pos) (tCB r t) := by
  intro pins s σ H Q I h
  refine wpAny_Call_Name_kw (ld_blt I hg hm hv ?_ hn hdb)
  exact PyProof.Rows.callWith_type1 (thn (ha pos pins s σ H _ I h) fun us s1 ⟨vs, H1, I1, r1, q1⟩ => hc pins s1 σ H1 vs us Q I1 r1 q1) he hpl
end
end L2
namespace HT
open PySem PyProof.Rows
section
open PySem.SeqAt
open PySem.AutoSeq1 (wpAny_loadPart')
open PySem.MeetsSeq PySem.MeetsSeq2 PySem.MeetsSeq3
end
section
variable {prog : Program} {w : World} {A : Around} {E : Value → Shared → Prop} {s : Shared}
def sIx (n d : Nat) : Option Int → Nat
  | none => d
  | some v => if v < 0 then (v + (n : Int)).toNat else min v.toNat n
theorem sIx_none (n d : Nat) : sIx n d none = d := rfl
theorem sIx_nat (n d k : Nat) : sIx n d (some (k : Int)) = min k n := by
  show (if (k : Int) < 0 then ((k : Int) + (n : Int)).toNat else min (k : Int).toNat n) = min k n
  rw [if_neg (by omega), Int.toNat_natCast]
end
end HT
namespace L2
open PySem PySem.Spec PyProof.Rows
abbrev TO := St → Hp → (Option Int → Hp → Prop) → Prop
def PO (X : Cx) (e : Option Expr) (t : TO) : Prop :=
  ∀ (pins : List (Addr × Obj)) (s : Shared) (σ : St) (H : Hp) (Q : Option Int → Hp → Prop), Inv X pins σ H s → t σ H Q →
    wpAny (model X.prog X.w) X.A (evalPart e X.env) (fun u s' => ∃ o H', Inv X pins σ H' s' ∧ IsPart u o ∧ Q o H') X.xe s
def tNoPart : TO := fun _ H Q => Q none H
def tPart (t : TE) : TO := fun σ H Q => t σ H fun x H1 => ∃ i, x = .int i ∧ Q (some i) H1
theorem intsAre_of {ns : List Int} : ∀ {us : List Value}, Vals (ns.map V.int) us → IntsAre us ns := by
  induction ns with
  | nil => intro us r; rw [List.map_nil] at r; cases r; exact .nil
  | cons n ns ih =>
    intro us r
    rw [List.map_cons] at r
    cases r with
    | cons r1 r2 =>
      obtain ⟨t, e⟩ := r1
      subst e
      exact .cons n t (ih r2)
section
variable {X : Cx} {e : Expr} {te : TE} {lo hi : Option Expr} {tl th : TO} {pos p2 : Pos}
theorem po_none : PO X none tNoPart := by
  intro pins s σ H Q I h
  rw [evalPart_none]
  exact wpAny_pure ⟨none, H, I, .none, h⟩
theorem po_some (h : PE X e te) : PO X (some e) (tPart te) := by
  intro pins s σ H Q I hw
  rw [evalPart_some]
  refine thn (h pins s σ H _ I hw) fun u s1 ⟨x, H1, I1, r1, q1⟩ => ?_
  obtain ⟨i, rfl, q⟩ := q1
  obtain ⟨t, rfl⟩ := r1
  exact ⟨some i, H1, I1, .int i t, q⟩
def SlR (X : Cx) (r : V → Option Int → Option Int → Hp → VK → Prop) : Prop :=
  ∀ (pins : List (Addr × Obj)) (s : Shared) (σ : St) (H : Hp) (x : V) (v vl vu : Value) (lo hi : Option Int) (sl : Addr) (Q : VK), Inv X pins σ H s → RelV x v → s.heap.IsSliceOf sl vl vu .none → IsPart vl lo → IsPart vu hi → r x lo hi H Q →
    ∃ T id, typeLookup (.type T) "__getitem__" = pure (some (.builtin id)) ∧ s.TypeIs v T ∧ wpAny (model X.prog X.w) X.A (getItem v (.ref sl)) (EP X pins σ Q) X.xe s
def tSl (r : V → Option Int → Option Int → Hp → VK → Prop) (te : TE) (tl th : TO) : TE := fun σ H Q => te σ H fun x H1 => tl σ H1 fun l H2 => th σ H2 fun u H3 => r x l u H3 Q
theorem pe_slice {r : V → Option Int → Option Int → Hp → VK → Prop} (hr : SlR X r) (he : PE X e te) (hl : PO X lo tl) (hu : PO X hi th) : PE X (.Subscript e (.Slice lo hi none p2) pos) (tSl r te tl th) := by
  intro pins s σ H Q I h
  refine Subscript_ (thn (he pins s σ H _ I h) fun v s1 ⟨x, H1, I1, r1, q1⟩ => ?_)
  refine wpAny_Slice (thn (hl pins s1 σ H1 _ I1 q1) fun vl s2 ⟨l, H2, I2, pl, q2⟩ => thn (hu pins s2 σ H2 _ I2 q2) fun vu s3 ⟨u, H3, I3, pu, q3⟩ => ?_)
  rw [evalPart_none]
  refine wpAny_pure ?_
  have I4 : Inv X pins σ H3 { s3 with heap := s3.heap.push { cls := .type "slice", data := .fields #[vl, vu, .none] } } := I3.kept (t' := s3.toks) fun b ob q => Heap.get?_push_of_some _ q
  obtain ⟨T, id, hT, ht, hg⟩ := hr pins { s3 with heap := s3.heap.push { cls := .type "slice", data := .fields #[vl, vu, .none] } } σ H3 x v vl vu l u s3.heap.objs.size Q I4 r1 (Heap.IsSliceOf.new ..) pl pu q3
  show wpAny (model X.prog X.w) X.A (subscriptTail e (.Slice lo hi none p2) v (.ref s3.heap.objs.size)) (EP X pins σ Q) X.xe { s3 with heap := s3.heap.push { cls := .type "slice", data := .fields #[vl, vu, .none] } }
  exact tail_any (ops := [.ref s3.heap.objs.size, v]) ht hT hg (by with_unfolding_all rfl)
def cutV (xs : List V) (lo hi : Option Int) : List V := (xs.drop (HT.sIx xs.length 0 lo)).take (HT.sIx xs.length xs.length hi - HT.sIx xs.length 0 lo)
theorem cutV_length (xs : List V) (lo hi : Option Int) : (cutV xs lo hi).length ≤ xs.length := by
  unfold cutV
  rw [List.length_take, List.length_drop]
  omega
end
end L2
namespace L2
open PySem PySem.Spec PyProof.Rows
def ixN (n : Nat) (i : Int) : Option Nat := if 0 ≤ i then (if i < n then some i.toNat else none) else if -(n : Int) ≤ i then some (i + n).toNat else none
def atI {α : Type} (xs : List α) (i : Int) : Option α := (ixN xs.length i).bind fun j => xs[j]?
theorem ixN_seq {n : Nat} {i : Int} {j : Nat} (h : ixN n i = some j) : seqIndex? i n = some j ∧ j < n ∧ -(n : Int) ≤ i ∧ i < n := by
  unfold ixN at h
  by_cases h0 : 0 ≤ i
  · rw [if_pos h0] at h
    by_cases h1 : i < n
    · rw [if_pos h1] at h
      have e : i.toNat = j := Option.some.inj h
      exact ⟨by rw [seqIndex_of h0 h1, e], by omega, by omega, h1⟩
    · rw [if_neg h1] at h; cases h
  · rw [if_neg h0] at h
    by_cases h1 : -(n : Int) ≤ i
    · rw [if_pos h1] at h
      have e : (i + n).toNat = j := Option.some.inj h
      exact ⟨by rw [seqIndex_neg (by omega) h1, e], by omega, h1, by omega⟩
    · rw [if_neg h1] at h; cases h
theorem atI_get {α : Type} {xs : List α} {i : Int} {v : α} (h : atI xs i = some v) : ∃ j, seqIndex? i xs.length = some j ∧ xs[j]? = some v ∧ j < xs.length ∧ -(xs.length : Int) ≤ i ∧ i < xs.length := by
  unfold atI at h
  cases e : ixN xs.length i with
  | none => rw [e] at h; cases h
  | some j =>
    rw [e] at h
    obtain ⟨h1, h2, h3, h4⟩ := ixN_seq e
    exact ⟨j, h1, h, h2, h3, h4⟩
theorem atI_nat {α : Type} {xs : List α} {j : Nat} {v : α} (h : xs[j]? = some v) : atI xs (j : Int) = some v := by
  have hj : j < xs.length := (List.getElem?_eq_some_iff.mp h).1
  have e : ixN xs.length (j : Int) = some j := by
    unfold ixN
    rw [if_pos (by omega), if_pos (by omega)]; simp
  unfold atI; rw [e]; exact h
def PlainIx (b : Expr) : Prop := ∀ o i, subscripted b false o i = operate [o, i] (getItem o i)
def IxR (X : Cx) (r : R2) : Prop :=
  ∀ (value slice : Expr) (pins : List (Addr × Obj)) (s : Shared) (σ : St) (H : Hp) (x y : V) (v u : Value) (Q : VK), Inv X pins σ H s → RelV x v → RelV y u → r x y H Q →
    subscripted slice false v u = operate [v, u] (getItem v u) → wpAny (model X.prog X.w) X.A (subscriptTail value slice v u) (EP X pins σ Q) X.xe s
def MtR (X : Cx) (id : String) (r : V → List V → Hp → VK → Prop) : Prop :=
  ∀ (pins : List (Addr × Obj)) (s : Shared) (σ : St) (H : Hp) (x : V) (xs : List V) (v : Value) (us : List Value) (Q : VK), Inv X pins σ H s → RelV x v → Vals xs us → r x xs H Q →
    wpAny (model X.prog X.w) X.A (call (.builtin id) (v :: us)) (EP X pins σ Q) X.xe s
section
variable {X : Cx} {a b : Expr} {ta tb : TE} {pos : Pos}
theorem pe_ix {r : R2} (hr : IxR X r) (ha : PE X a ta) (hb : PE X b tb) (hs : PlainIx b) : PE X (.Subscript a b pos) (tOp r ta tb) := by
  intro pins s σ H Q I h
  exact Subscript_ (binT ha hb I h fun v u s2 x y H2 I2 rx ry q => hr a b pins s2 σ H2 x y v u Q I2 rx ry q (hs _ _))
def rIxL (K : PySem.W.Frag) : R2 := fun x y H Q => ∃ p xs i v, x = .ref p ∧ y = .int i ∧ SqL K H p xs ∧ atI xs i = some v ∧ Q v H
def rIxT (K : PySem.W.Frag) : R2 := fun x y H Q => ∃ p xs i v, x = .ref p ∧ y = .int i ∧ SqT K H p xs ∧ atI xs i = some v ∧ Q v H
theorem ix_list : IxR X (rIxL X.K) := by
  intro value slice pins s σ H x y v u Q I rx ry h hs
  obtain ⟨p, xs, i, z, rfl, rfl, hq, he, q⟩ := h
  cases rx
  obtain ⟨t, rfl⟩ := ry
  obtain ⟨its, r, pl, hz⟩ := I.list hq
  obtain ⟨j, h1, h2, h3, h4, h5⟩ := atI_get he
  obtain ⟨w, ew, rw'⟩ := r.get h2
  have hl := r.length
  have hn := line63
  have fin : EP X pins σ Q w s := ⟨z, H, I, rw', q⟩
  by_cases h0 : 0 ≤ i
  · have hj : i.toNat = j := by
      rw [seqIndex_of h0 h5] at h1
      exact Option.some.inj h1
    exact item_listR pl.isList h0 (by omega) (by rw [hj]; simpa using ew) fin hs
  · have hj : (i + (its.toArray.size : Int)).toNat = j := by
      rw [seqIndex_neg (by omega) h4] at h1
      rw [List.size_toArray, ← hl]
      exact Option.some.inj h1
    exact subscriptTail_builtinR (x := w) pl.isList.typeIs slot_list_getitem.lookup
      (wpAny_getItem_list_neg (Q := fun r s' => r = w ∧ EP X pins σ Q r s') pl.isList (by omega) (by rw [List.size_toArray] <;> omega) (by omega) (by rw [hj]; simpa using ew) ⟨rfl, fin⟩) hs
theorem ix_tup : IxR X (rIxT X.K) := by
  intro value slice pins s σ H x y v u Q I rx ry h hs
  obtain ⟨p, xs, i, z, rfl, rfl, hq, he, q⟩ := h
  cases rx
  obtain ⟨t, rfl⟩ := ry
  obtain ⟨its, r, pl, hz⟩ := I.tuple hq
  obtain ⟨j, h1, h2, h3, h4, h5⟩ := atI_get he
  obtain ⟨w, ew, rw'⟩ := r.get h2
  have hl := r.length
  have hn := line63
  have fin : EP X pins σ Q w s := ⟨z, H, I, rw', q⟩
  exact subscriptTail_builtinR (x := w) pl.typeIs slot_tuple_getitem.lookup
    (getItem_tuple (j := j) (Q := fun r s' => r = w ∧ EP X pins σ Q r s') pl (by omega) (by omega) (by rw [List.size_toArray, ← hl]; exact h1) (by simpa using ew) ⟨rfl, fin⟩) hs
theorem Inv.lst {pins : List (Addr × Obj)} {σ : St} {H : Hp} {s : Shared} {p : Addr} {xs : List V} (I : Inv X pins σ H s) (h : H p = some (.lst xs)) :
    ∃ (its : List Value) (n : Nat), Vals xs its ∧ s.heap.get? p = some { cls := .type "list", data := .seq its.toArray n } ∧ xs.length ≤ sizeLine := by
  obtain ⟨z, its, n, r, e⟩ := I.hok p _ h
  exact ⟨its, n, r, e, z⟩
theorem slice_bounds (lo hi : Option Int) (n : Nat) : (sliceBounds lo hi none n).1 = ((HT.sIx n 0 lo : Nat) : Int) ∧ (sliceBounds lo hi none n).2.1 = ((HT.sIx n n hi : Nat) : Int) ∧ (sliceBounds lo hi none n).2.2 = 1 := by
  refine ⟨?_, ?_, rfl⟩
  · cases lo with
    | none => simp [sliceBounds, HT.sIx]
    | some i =>
      simp only [sliceBounds, HT.sIx, Option.getD_none, show (1 : Int) > 0 by decide, if_true]
      by_cases h : i < 0
      · simp only [h, if_true] <;> omega
      · simp only [h, if_false] <;> omega
  · cases hi with
    | none => simp [sliceBounds, HT.sIx]
    | some i =>
      simp only [sliceBounds, HT.sIx, Option.getD_none, show (1 : Int) > 0 by decide, if_true]
      by_cases h : i < 0
      · simp only [h, if_true] <;> omega
      · simp only [h, if_false] <;> omega
theorem slicePick_cut (its : List Value) (lo hi : Option Int) : slicePick its.toArray lo hi none = ((its.drop (HT.sIx its.length 0 lo)).take (HT.sIx its.length its.length hi - HT.sIx its.length 0 lo)).toArray := by
  obtain ⟨h1, h2, h3⟩ := slice_bounds lo hi its.toArray.size
  unfold slicePick
  rw [h1, h2, h3]
  simp only [sliceRange_one, pick_run, List.size_toArray] <;> rfl
def rSlL (K : PySem.W.Frag) : V → Option Int → Option Int → Hp → VK → Prop := fun x lo hi H Q => ∃ a xs, x = .ref a ∧ SqL K H a xs ∧ ∀ p, H p = none → Q (.ref p) (upd H p (.lst (cutV xs lo hi)))
theorem sl_list : SlR X (rSlL X.K) := by
  intro pins s σ H x v vl vu lo hi sl Q I rx hs pl pu h
  obtain ⟨a, xs, rfl, hx, q⟩ := h
  cases rx
  obtain ⟨its, r, ht, hz⟩ := I.list hx
  have hlen := r.length
  refine ⟨"list", _, slot_list_getitem.lookup, ht.isList.typeIs, ?_⟩
  refine wpAny_getItem_list_slice ht.isList hs pl pu .none (by simp) ?_ (by rw [List.size_toArray] <;> omega)
  rw [slicePick_cut, ← hlen]
  refine ⟨.ref s.heap.objs.size, _, I.laid (t' := s.toks) (o := .lst (cutV xs lo hi)) (fun b ob q => Heap.get?_push_of_some _ q) (Nat.le_refl _) ?_, rfl, q _ (I.hok.fresh (Nat.le_refl _))⟩
  exact ⟨Nat.le_trans (cutV_length xs lo hi) hz, _, 0, (r.drop (HT.sIx xs.length 0 lo)).take (HT.sIx xs.length xs.length hi - HT.sIx xs.length 0 lo), Heap.get?_push_size _ rfl⟩
def flatV : V → Bool
  | .non => true
  | .bl _ => true
  | .int _ => true
  | .str _ => true
  | _ => false
def eqV : V → V → Bool
  | .non, .non => true
  | .bl a, .bl b => a == b
  | .bl a, .int b => (if a then 1 else 0) == b
  | .int a, .bl b => a == (if b then 1 else 0)
  | .int a, .int b => a == b
  | .str a, .str b => a == b
  | _, _ => false
theorem eqAt_V {A : Around} {s : Shared} {y x : V} {u v : Value} (ry : RelV y u) (rx : RelV x v) (fy : flatV y = true) (fx : flatV x = true) : SeqAt.EqAt A s u v (eqV y x) := by
  cases y with
  | non =>
    cases ry
    cases x with
    | non => cases rx; exact SeqAt.EqAt.same _
    | bl b => cases rx; exact SeqAt.EqAt.none_bool b
    | int b => obtain ⟨t, rfl⟩ := rx; exact SeqAt.EqAt.none_int b t
    | str b => obtain ⟨t, rfl⟩ := rx; exact SeqAt.EqAt.none_str b t
    | _ => exact absurd (show false = true from fx) Bool.false_ne_true
  | bl a =>
    cases ry
    cases x with
    | non => cases rx; exact SeqAt.EqAt.bool_none a
    | bl b => cases rx; exact SeqAt.EqAt.bool_bool a b
    | int b => obtain ⟨t, rfl⟩ := rx; exact SeqAt.EqAt.bool_int a b t
    | str b => obtain ⟨t, rfl⟩ := rx; exact SeqAt.EqAt.bool_str a b t
    | _ => exact absurd (show false = true from fx) Bool.false_ne_true
  | int a =>
    obtain ⟨t', rfl⟩ := ry
    cases x with
    | non => cases rx; exact SeqAt.EqAt.int_none a t'
    | bl b => cases rx; exact SeqAt.EqAt.int_bool a t' b
    | int b => obtain ⟨t, rfl⟩ := rx; exact SeqAt.EqAt.int_int a t' b t
    | str b => obtain ⟨t, rfl⟩ := rx; exact SeqAt.EqAt.int_str a t' b t
    | _ => exact absurd (show false = true from fx) Bool.false_ne_true
  | str a =>
    obtain ⟨t', rfl⟩ := ry
    cases x with
    | non => cases rx; exact SeqAt.EqAt.str_none a t'
    | bl b => cases rx; exact SeqAt.EqAt.str_bool a t' b
    | int b => obtain ⟨t, rfl⟩ := rx; exact SeqAt.EqAt.str_int a t' b t
    | str b => obtain ⟨t, rfl⟩ := rx; exact SeqAt.EqAt.str_str a t' b t
    | _ => exact absurd (show false = true from fx) Bool.false_ne_true
  | _ => exact absurd (show false = true from fy) Bool.false_ne_true
def eqU (x : V) (u : Value) : Bool := match u with
  | .none => eqV .non x
  | .bool b => eqV (.bl b) x
  | .int i _ => eqV (.int i) x
  | .str z _ => eqV (.str z) x
  | _ => false
theorem eqU_of {x y : V} {u : Value} (r : RelV y u) (f : flatV y = true) : eqU x u = eqV y x := by
  cases y with
  | non => cases r; rfl
  | bl b => cases r; rfl
  | int i => obtain ⟨t, rfl⟩ := r; rfl
  | str z => obtain ⟨t, rfl⟩ := r; rfl
  | _ => exact absurd (show false = true from f) Bool.false_ne_true
theorem any_eqU {x : V} : ∀ {xs : List V} {us : List Value}, Vals xs us → xs.all flatV = true → us.any (eqU x) = xs.any fun y => eqV y x
  | _, _, .nil, _ => rfl
  | y :: xs, u :: us, .cons r t, f => by
    rw [List.all_cons, Bool.and_eq_true] at f
    rw [List.any_cons, List.any_cons, eqU_of r f.1, any_eqU t f.2]
theorem mem_eqAt {A : Around} {s : Shared} {x : V} {v : Value} (rx : RelV x v) (fx : flatV x = true) : ∀ {xs : List V} {us : List Value}, Vals xs us → xs.all flatV = true → ∀ u ∈ us, SeqAt.EqAt A s u v (eqU x u)
  | _, _, .nil, _ => fun u hu => by cases hu
  | y :: xs, u :: us, .cons r t, f => fun u' hu => by
    rw [List.all_cons, Bool.and_eq_true] at f
    rcases List.mem_cons.mp hu with rfl | hu
    · rw [eqU_of r f.1]; exact eqAt_V r rx f.1 fx
    · exact mem_eqAt rx fx t f.2 u' hu
def inV (x : V) (xs : List V) : Bool := xs.any fun y => eqV y x
def rIn (K : PySem.W.Frag) (neg : Bool) : R2 := fun x y H Q => ∃ p xs, y = .ref p ∧ (SqL K H p xs ∨ SqT K H p xs) ∧ flatV x = true ∧ xs.all flatV = true ∧ Q (.bl (if neg then !inV x xs else inV x xs)) H
theorem op_in_seq : OpR X (compareOp .In) (rIn X.K false) := by
  intro pins s σ H x y v u Q I rx ry h
  obtain ⟨p, xs, rfl, hq, fx, fs, q⟩ := h
  cases ry
  rcases hq with hq | hq
  · obtain ⟨its, r, pl, hz⟩ := I.list hq
    refine SeqAt.in_listAt (eqU x) pl.isList (fun w hw => mem_eqAt rx fx r fs w (by simpa using hw)) ⟨.bl _, H, I, rfl, ?_⟩
    rw [show its.toArray.any (eqU x) = its.any (eqU x) by simp, any_eqU r fs]
    exact q
  · obtain ⟨its, r, pl, hz⟩ := I.tuple hq
    refine SeqAt.in_tupleAt (eqU x) pl (fun w hw => mem_eqAt rx fx r fs w (by simpa using hw)) ⟨.bl _, H, I, rfl, ?_⟩
    rw [show its.toArray.any (eqU x) = its.any (eqU x) by simp, any_eqU r fs]
    exact q
theorem call_len_seq : CallR X (.builtin "len") (fun xs H Q => ∃ p ys, xs = [.ref p] ∧ (SqL X.K H p ys ∨ SqT X.K H p ys) ∧ Q (.int ys.length) H) := by
  intro pins s σ H xs us Q I r h
  obtain ⟨p, ys, rfl, hq, q⟩ := h
  obtain ⟨u, rfl, rx⟩ := vals1 r
  cases rx
  have hn := line63
  rcases hq with hq | hq
  · obtain ⟨its, r', pl, hz⟩ := I.list hq
    have hlen := r'.length
    exact Calls.call_len_list pl.isList (by simp only [List.size_toArray] <;> omega) ⟨.int ys.length, H, I.tok _, ⟨s.toks + 1, by rw [List.size_toArray, hlen]⟩, q⟩
  · obtain ⟨its, r', pl, hz⟩ := I.tuple hq
    have hlen := r'.length
    exact len_tuple pl (by simp only [List.size_toArray] <;> omega) ⟨.int ys.length, H, I.tok _, ⟨s.toks + 1, by rw [List.size_toArray, hlen]⟩, q⟩
theorem call_list_of : CallR X (.type "list") (fun xs H Q => ∃ p ys, xs = [.ref p] ∧ (SqL X.K H p ys ∨ SqT X.K H p ys) ∧ ∀ l, H l = none → Q (.ref l) (upd H l (.lst ys))) := by
  intro pins s σ H xs us Q I r h
  obtain ⟨p, ys, rfl, hq, q⟩ := h
  obtain ⟨u, rfl, rx⟩ := vals1 r
  cases rx
  have fin : ∀ (its : List Value), Vals ys its → ys.length ≤ sizeLine → ∀ (h' : Heap) (c' : Nat), (∀ b o', s.heap.get? b = some o' → h'.get? b = some o') →
      h'.get? s.heap.objs.size = some { cls := .type "list", dict := none, data := .seq its.toArray c', slots := #[] } → EP X pins σ Q (.ref s.heap.objs.size) { s with heap := h' } := fun its r' hz h' c' kp e =>
    ⟨.ref s.heap.objs.size, _, I.laid (t' := s.toks) kp (Nat.le_refl _) (show ObjOk X.prog X.w _ h' _ (.lst ys) from ⟨hz, its, c', r', e⟩), rfl, q _ (I.hok.fresh (Nat.le_refl _))⟩
  rcases hq with hq | hq
  · obtain ⟨its, r', pl, hz⟩ := I.list hq
    have hlen := r'.length
    obtain ⟨o, ho, hc, n, hd⟩ := pl.isList
    exact call_list_seq p (.inl rfl) ho hc hd (fun h' c' kp e => fin its r' hz h' c' kp e) (by simp only [List.size_toArray] <;> omega)
  · obtain ⟨its, r', pl, hz⟩ := I.tuple hq
    have hlen := r'.length
    obtain ⟨o, ho, hc, n, hd⟩ := pl
    exact call_list_seq p (.inr rfl) ho hc hd (fun h' c' kp e => fin its r' hz h' c' kp e) (by simp only [List.size_toArray] <;> omega)
def tyV (K : PySem.W.Frag) (T : String) (x : V) (H : Hp) : Prop := match x with
  | .str _ => T = "str"
  | .int _ => T = "int"
  | .ref p => (T = "list" ∧ ∃ xs, SqL K H p xs) ∨ (T = "tuple" ∧ ∃ o, K.lookup p = some o ∧ o.cls = .type "tuple" ∧ o.dict = none) ∨
      (T = "dict" ∧ ((∃ kvs, H p = some (.dK kvs)) ∨ ∃ kvs, H p = some (.dT kvs))) ∨ (T = "set" ∧ ∃ S n, H p = some (.set S n))
  | _ => False
theorem tyV_is {pins : List (Addr × Obj)} {σ : St} {H : Hp} {s : Shared} {T : String} {x : V} {v : Value} (I : Inv X pins σ H s) (r : RelV x v) (ty : tyV X.K T x H) :
    s.TypeIs v T ∧ ∀ a, v = .ref a → ∃ ob, s.heap.get? a = some ob ∧ ob.dict = none := by
  cases x with
  | str z =>
    obtain ⟨t, rfl⟩ := r
    cases (show T = "str" from ty)
    exact ⟨typeIs_str s z t, fun _ e => nomatch e⟩
  | int i =>
    obtain ⟨t, rfl⟩ := r
    cases (show T = "int" from ty)
    exact ⟨typeIs_int s i t, fun _ e => nomatch e⟩
  | ref p =>
    cases r
    rcases ty with ⟨rfl, xs, hq⟩ | ⟨rfl, o, hk, hc, hd⟩ | ⟨rfl, hk⟩ | ⟨rfl, S, n, hk⟩
    · obtain ⟨its, _, pl, _⟩ := I.list hq
      refine ⟨pl.isList.typeIs, fun a e => ?_⟩
      cases e
      obtain ⟨o, n, e, c, hd, _⟩ := pl
      exact ⟨o, e, hd⟩
    · refine ⟨⟨o, I.kIn p o hk, hc⟩, fun a e => ?_⟩
      cases e
      exact ⟨o, I.kIn _ o hk, hd⟩
    · have z : ∃ o, s.heap.get? p = some o ∧ o.ExactDict := by
        rcases hk with ⟨kvs, hk⟩ | ⟨kvs, hk⟩
        · obtain ⟨_, _, _, _, o, _, _, e, ex, _⟩ := I.hok p _ hk
          exact ⟨o, e, ex⟩
        · obtain ⟨_, _, _, _, o, _, _, e, ex, _⟩ := I.hok p _ hk
          exact ⟨o, e, ex⟩
      obtain ⟨o, e, ex⟩ := z
      refine ⟨⟨o, e, ex.1⟩, fun a e2 => ?_⟩
      cases e2
      exact ⟨o, e, ex.2.1⟩
    · obtain ⟨o, _, _, _, e, ex, _⟩ := I.hok p _ hk
      refine ⟨⟨o, e, ex.1⟩, fun a e2 => ?_⟩
      cases e2
      exact ⟨o, e, ex.2.1⟩
  | _ => exact False.elim ty
def tBM (K : PySem.W.Frag) (T : String) (r : V → List V → Hp → VK → Prop) (to : TE) (t : TA) : TE := fun σ H Q => to σ H fun x H1 => tyV K T x H1 ∧ t σ H1 fun xs H2 => r x xs H2 Q
variable {o e : Expr} {es : List Expr} {to : TE} {t : TA} {name : Str} {apos cpos : Pos} {T id : String} {r : V → List V → Hp → VK → Prop}
theorem pe_bm (pa : PlainAttrs T) (slot : Slot T name id) (hty : typeOf (.builtin id) = pure (.type "method_descriptor")) (hm : MtR X id r) (ho : PE X o to) (ha : PA X (e :: es) t)
    (hbase : attributeBase o name X.env (eval o X.env) = eval o X.env := by rfl)
    (hfew : ((backTo cpos (starEach (e :: es) X.env)).all (fun x => !x.1) && (backToKw cpos (keywordEach [] X.env)).all (fun x => x.1.isSome)
      && decide ((e :: es).length + ([] : List Keyword).length + (if ([] : List Keyword).isEmpty then 0 else 1) < 30)) = true := by rfl)
    (hline : (apos.endLine == cpos.line) = true := by rfl) (hs : starEach (e :: es) X.env = (false, eval e X.env) :: starEach es X.env := by rfl) (hplain : (backTo cpos (starEach es X.env)).any (·.1) = false := by rfl) :
    PE X (.Call (.Attribute o name apos) (e :: es) [] cpos) (tBM X.K T r to t) := by
  intro pins s σ H Q I h
  refine wpAny_Call_method_late hbase hfew hline rfl (thn (ho pins s σ H _ I h) fun v s1 ⟨x, H1, I1, r1, ty, q1⟩ => ?_)
  obtain ⟨h1, h2⟩ := tyV_is I1 r1 ty
  refine ⟨T, id, pa, slot, hty, h1, h2, ?_⟩
  have hA := ha cpos pins s1 σ H1 _ I1 q1
  rw [hs] at hA ⊢
  refine Calls.callWith_builtin (by show (false || (backTo cpos (starEach es X.env)).any (·.1)) = false; rw [hplain] <;> rfl) (Calls.evalArgs_plain ?_)
  exact thn hA fun us s2 ⟨vs, H2, I2, r2, q2⟩ => hm pins s2 σ H2 x vs v us Q I2 r1 r2 q2
end
end L2
namespace L2
open PySem PySem.Spec PyProof.Rows
def MtM (X : Cx) (id : String) (r : V → List V → Hp → VK → Prop) : Prop :=
  ∀ (pins : List (Addr × Obj)) (s : Shared) (σ : St) (H : Hp) (x : V) (xs : List V) (v : Value) (us : List Value) (Q : VK), Inv X pins σ H s → RelV x v → Vals xs us → r x xs H Q →
    wpAny (model X.prog X.w) X.A (call (.builtin id) (v :: us)) (EP X pins σ Q) X.xe s
theorem Vals.one : ∀ {x : V} {us : List Value}, Vals [x] us → ∃ u, us = [u] ∧ RelV x u
  | _, _, .cons r .nil => ⟨_, rfl, r⟩
theorem Vals.two : ∀ {x y : V} {us : List Value}, Vals [x, y] us → ∃ u v, us = [u, v] ∧ RelV x u ∧ RelV y v
  | _, _, _, .cons r (.cons q .nil) => ⟨_, _, rfl, r, q⟩
theorem Vals.zero : ∀ {us : List Value}, Vals [] us → us = []
  | _, .nil => rfl
theorem Vals.eraseIdx : ∀ {xs : List V} {us : List Value} (i : Nat), Vals xs us → Vals (xs.eraseIdx i) (us.eraseIdx i)
  | _, _, _, .nil => .nil
  | _, _, 0, .cons _ t => t
  | _, _, i + 1, .cons r t => .cons r (Vals.eraseIdx i t)
section
variable {X : Cx} {pins : List (Addr × Obj)} {σ : St} {H : Hp} {s : Shared} {l b : Addr} {xs ys zs : List V}
theorem Inv.lset {its its' : List Value} {n : Nat} {f : Array Value → Array Value} {t' : Nat} (I : Inv X pins σ H s) (hH : H l = some (.lst xs))
    (e : s.heap.get? l = some { cls := .type "list", data := .seq its.toArray n }) (hf : f its.toArray = its'.toArray) (hv : Vals ys its') (hz : ys.length ≤ sizeLine) :
    Inv X pins σ (upd H l (.lst ys)) { s with heap := s.heap.update l (Obj.mapSeq f), toks := t' } := by
  have q := PySem.IsL.update e f
  rw [hf] at q
  refine I.write (x := l) (e := l) (by rw [hH]; exact trivial) (.inl rfl) (fun b' u hb hu => (Heap.get?_update_other s.heap (Obj.mapSeq f) (Ne.symm hb)).trans hu) ⟨_, q⟩ ?_
  exact ⟨hz, its', _, hv, q⟩
theorem Inv.lnew {its : List Value} {t' : Nat} (I : Inv X pins σ H s) (hv : Vals ys its) (hz : ys.length ≤ sizeLine) :
    Inv X pins σ (upd H s.heap.objs.size (.lst ys)) { s with heap := s.heap.push { cls := .type "list", data := .seq its.toArray }, toks := t' } :=
  I.laid (fun _ _ q => Heap.get?_push_of_some _ q) (Nat.le_refl _) ⟨hz, its, 0, hv, Heap.get?_push_size _ rfl⟩
theorem Inv.fresh (I : Inv X pins σ H s) : H s.heap.objs.size = none := I.hok.fresh (Nat.le_refl _)
theorem Inv.lstM (I : Inv X pins σ H s) (hH : H l = some (.lst xs)) : xs.length ≤ sizeLine ∧ ∃ (its : List Value) (n : Nat), Vals xs its ∧ xs.length = its.length ∧ s.heap.get? l = some { cls := .type "list", data := .seq its.toArray n } := by
  obtain ⟨z, its, n, r, e⟩ := I.hok l _ hH
  exact ⟨z, its, n, r, r.length, e⟩
theorem notLongL {n : Nat} (h : n ≤ sizeLine) : Builtin.List.listTooLong n = false := by
  unfold Builtin.List.listTooLong
  exact decide_eq_false (by omega)
end
section
variable {X : Cx}
def rAppend : V → List V → Hp → VK → Prop := fun x vs H Q => ∃ l xs y, x = .ref l ∧ vs = [y] ∧ H l = some (.lst xs) ∧ xs.length < sizeLine ∧ Q .non (upd H l (.lst (xs ++ [y])))
theorem mt_append : MtM X "list.append" rAppend := by
  intro pins s σ H x vs v us Q I rx rv h
  obtain ⟨l, xs, y, rfl, rfl, hH, hz, q⟩ := h
  cases rx
  obtain ⟨u, rfl, ru⟩ := rv.one
  obtain ⟨z, its, n, r, hl, e⟩ := I.lstM hH
  refine call_meets F.slot_list_append ⟨_, e, rfl⟩ F.entry_list_append (F.args_list_append_2 _ _) (PySem.list_append l its.toArray n u (by rw [List.size_toArray]; omega)) ⟨e, ?_⟩
  refine ⟨.non, _, I.lset (its' := its ++ [u]) hH e (by simp) (r.append (.cons ru .nil)) ?_, rfl, q⟩
  rw [List.length_append, List.length_singleton]
  omega
def rExtend : V → List V → Hp → VK → Prop := fun x vs H Q => ∃ l b xs zs, x = .ref l ∧ vs = [.ref b] ∧ H l = some (.lst xs) ∧ H b = some (.lst zs) ∧ xs.length + zs.length ≤ sizeLine ∧ Q .non (upd H l (.lst (xs ++ zs)))
theorem mt_extend : MtM X "list.extend" rExtend := by
  intro pins s σ H x vs v us Q I rx rv h
  obtain ⟨l, b, xs, zs, rfl, rfl, hH, hB, hz, q⟩ := h
  cases rx
  obtain ⟨u, rfl, ru⟩ := rv.one
  cases ru
  obtain ⟨z, its, n, r, hl, e⟩ := I.lstM hH
  obtain ⟨z2, its2, n2, r2, hl2, e2⟩ := I.lstM hB
  have hsz : its.toArray.size + its2.toArray.size ≤ sizeLine := by rw [List.size_toArray, List.size_toArray]; omega
  have hlong : ¬ (!its.toArray.isEmpty && Builtin.List.listTooLong (its.toArray.size + its2.toArray.size)) = true := by
    rw [notLongL hsz, Bool.and_false]
    exact Bool.false_ne_true
  refine call_meets F.slot_list_extend ⟨_, e, rfl⟩ F.entry_list_extend (F.args_list_extend_2 _ _)
    (AutoSeq1.list_extend_list_list_0 l its.toArray n b its2.toArray n2 hlong (by rw [List.size_toArray]; omega) (by omega)) ⟨e, e2, ?_⟩
  refine ⟨.non, _, I.lset (its' := its ++ its2) hH e (by simp) (r.append r2) ?_, rfl, q⟩
  rw [List.length_append]
  omega
def rCat : R2 := fun x y H Q => ∃ l b xs zs, x = .ref l ∧ y = .ref b ∧ H l = some (.lst xs) ∧ H b = some (.lst zs) ∧ xs.length + zs.length ≤ sizeLine ∧ ∀ p, H p = none → Q (.ref p) (upd H p (.lst (xs ++ zs)))
theorem op_cat : OpR X (binaryOp .Add) rCat := by
  intro pins s σ H x y v u Q I rx ry h
  obtain ⟨l, b, xs, zs, rfl, rfl, hH, hB, hz, q⟩ := h
  cases rx
  cases ry
  obtain ⟨z, its, n, r, hl, e⟩ := I.lstM hH
  obtain ⟨z2, its2, n2, r2, hl2, e2⟩ := I.lstM hB
  refine PySem.P.add_list e e2 ?_ (by rw [List.size_toArray, List.size_toArray]; omega)
  have ea : its.toArray ++ its2.toArray = (its ++ its2).toArray := by simp
  rw [ea]
  exact ⟨.ref _, _, I.lnew (t' := s.toks) (r.append r2) (by rw [List.length_append]; omega), rfl, q _ I.fresh⟩
end
section
variable {prog : Program} {w : World} {A : Around} {E : Value → Shared → Prop} {s : Shared}
end
section
variable {X : Cx}
end
end L2
namespace Att
open PySem PySem.W PySem.Calls PyProof.Rows
theorem ints_of_wellAll {P : Params} {h : Heap} : ∀ (ns : List Int) (vs : List Value), WellAll P h vs (ns.map WData.int) → IntsAre vs ns := by
  intro ns
  induction ns with
  | nil =>
    intro vs w
    rw [List.map_nil] at w
    cases w
    exact .nil
  | cons n ns ih =>
    intro vs w
    rw [List.map_cons] at w
    cases w with
    | cons a b =>
      cases a
      exact .cons _ _ (ih _ b)
theorem script_of {l : OpenLaw} {n : Nat} (hn : l.most = some n) {P : Params} {h : Heap} {args : List WData} {vals : List Value}
    (hpre : l.row.toRowW.claim.pre args = true) (hwl : WellAll P h vals args) :
    ∃ a vs ns, vals = [Value.ref a] ∧ args = [WData.list (ns.map WData.int)] ∧ h.get? a = some { cls := .type "list", data := .seq vs.toArray } ∧ IntsAre vs ns ∧ ns.length ≤ n := by
  have hsh : WShape.hasAll [] args [.list .int] = true := (pre_splitW hpre).1
  have hc : l.pre.holds [] { args := args } = true := (pre_splitW hpre).2
  obtain ⟨d, r, rfl, h1, h2⟩ := hasAllW_cons hsh
  obtain rfl := hasAllW_nil h2
  obtain ⟨xs, rfl, h3⟩ := hasW_list h1
  obtain ⟨ns, rfl⟩ := items_int h3
  have hlen : ns.length ≤ n := by
    unfold OpenLaw.pre at hc
    have h4 : (WTm.not (.lt (.lit (.int (n : Int))) (.len (.arg 0)))).holds [] { args := [.list (ns.map .int)] } = true := by
      have h4 := (holds_andW hc).1
      rw [hn] at h4
      exact h4
    have h5 := condW_of h4 (w_not (w_lt w_lit (w_len_list (w_arg rfl))))
    rw [List.length_map] at h5
    refine Nat.le_of_not_lt fun q => ?_
    have q' : (n : Int) < ((ns.length : Nat) : Int) := by omega
    first
      | (rw [decide_eq_true q'] at h5; exact absurd h5 (by decide))
      | (simp at h5; omega)
  cases hwl with
  | cons w1 w2 =>
    cases w2
    cases w1 with
    | list ho hall => exact ⟨_, _, ns, rfl, rfl, ho, ints_of_wellAll ns _ hall, hlen⟩
theorem post_true (l : OpenLaw) (args : List WData) : l.row.toRowW.claim.post args (.bool true) args = true :=
  postW_of (r := l.row.toRowW) (X := (true == true))
    (show WShape.has [] (.bool true) .bool = true by first | rfl | decide | simp [WShape.has, WShape.arms, WShape.armsAll])
    (show (WTm.eq .res (.lit (.bool true))).value [] { args := args, res := some (.bool true), after := args } = some (.bool (true == true)) from w_eq_bool (w_res rfl) w_lit) rfl
theorem attach_call {l : OpenLaw} {n : Nat} {q : Program} {loose : List Str} {XP : (Str → Option Value) → Heap → Prop} {YP : World → Heap → Prop} {d : DefRec}
    (hn : l.most = some n) (hdf : d.params.defaults = [])
    (call : ∀ (w : World) (s₀ s₁ : Shared) (mg mb : Str → Option Value) (fa : Addr) (o : Obj) (pm cd doc : Value) (a : Addr) (vs : List Value) (ns : List Int),
      Ground q loose [] XP w s₀ mg mb s₁.heap → YP w s₁.heap →
      s₁.heap.get? fa = some o → o.data = .func (docDef d.name d.params d.body d.scope pm cd doc) → s₁.heap.CodeRec cd d.name → mg d.name = some (.ref fa) →
      s₁.heap.get? a = some { cls := .type "list", data := .seq vs.toArray } → IntsAre vs ns → ns.length ≤ n → s₁.gens = #[] →
      codeAny (model l.prog w) callerA (.call (.ref fa) ⟨[.ref a], []⟩) (fun r s' => r = .ok (.ret (.bool true)) ∧ OldK s₁.heap s'.heap ∧ s'.os = s₁.os ∧ AllBare s'.gens) s₁) :
    WalkO q loose XP YP l.row.toRowW d [] (fun f vs => PySem.call f vs) := by
  intro w s₀ s₁ mg mb G Y fa o pm cd doc dV kV ho hd hcd hD hmg hg args vals as hpre hlay hrd hwl hlo
  obtain rfl : dV = .none := Dflts.none hD hdf
  obtain rfl : kV = .none := Dflts.noKw hD
  obtain ⟨a, vs, ns, rfl, rfl, hobj, hints, hlen⟩ := script_of hn hpre hwl
  refine enter_call (codeAny_mono (call w s₀ s₁ mg mb fa o pm cd doc a vs ns G Y ho (fd_plain hd) hcd hmg hobj hints hlen hg) fun r s' hq => ?_)
  obtain ⟨rfl, h2, h3, h4⟩ := hq
  exact ⟨.inl ⟨.bool true, .bool true, [], rfl, fun _ => rfl, .bool true, post_true l _, fun _ => ⟨List.Pairwise.nil, fun _ hm => (nomatch hm)⟩⟩, h2, h3, h4⟩
section
variable {prog : Program} {w : World} {A : Around} {E : Value → Shared → Prop} {s : Shared} {K : Frag}
end
end Att
namespace L2
open PySem PySem.Spec PyProof.Rows
theorem vals_ints : ∀ {vs : List Value} {ns : List Int}, IntsAre vs ns → Vals (ns.map V.int) vs
  | _, _, .nil => .nil
  | _, _, .cons n t h => .cons ⟨t, rfl⟩ (vals_ints h)
def Only (H : Hp) : Prop := ∀ b, H b = none ∨ ∃ o xs, H b = some (.frz o (.lst xs))
theorem law_call {P : Program} {w : World} {K : PySem.W.Frag} {mg mb : Str → Option Value} {CX : CXT} {k : Nat} {fa a : Addr} {fd : FuncData} {x : Str} {sp : Sp} {s₁ : Shared} {vs : List Value} {ns : List Int}
    (KX : K.In s₁.heap) (hns : s₁.heap.Ns mainGlobals mg) (hb : s₁.heap.Ns builtinsNs mb) (hbb : ∀ x : Str, x ≠ "__name__" → mb x = bootBuiltins x) (hlim : s₁.heap.NoLimit) (hg : s₁.gens = #[])
    (ha : s₁.heap.get? a = some { cls := .type "list", data := .seq vs.toArray }) (hi : IntsAre vs ns) (hl : ns.length ≤ sizeLine) (hr : Room k callerA)
    (F : ∀ base : Heap, K.In base → base.Ns mainGlobals mg → FnOk P w K mg base CX k fa fd [x] sp) (hbind : ∀ (s : Shared) (u : Value), BindsTo s fd ⟨[u], []⟩ [(x, u)])
    (hsp : ∀ H : Hp, Only H → SqL K H a (ns.map V.int) → sp [.ref a] H (fun v _ => v = .bl true) fun _ _ _ => False)
    (hCX : ∀ H e s', CX [] H s₁ (fun _ _ _ => False) e s' → False) :
    codeAny (model P w) callerA (.call (.ref fa) ⟨[.ref a], []⟩) (fun r s' => r = .ok (.ret (.bool true)) ∧ OldK s₁.heap s'.heap ∧ s'.os = s₁.os ∧ AllBare s'.gens) s₁ := by
  have rv := vals_ints hi
  have lenV := hi.length
  have core : ∀ H : Hp, Only H → SqL K H a (ns.map V.int) → HOk P w H s₁.heap → (∀ b, H b ≠ none → b = a) → (H a ≠ none → K.lookup a = none) →
      codeAny (model P w) callerA (.call (.ref fa) ⟨[.ref a], []⟩) (fun r s' => r = .ok (.ret (.bool true)) ∧ OldK s₁.heap s'.heap ∧ s'.os = s₁.os ∧ AllBare s'.gens) s₁ := by
    intro H hO hS hok hA hK
    have base_of : ∀ {b : Addr} {o : Obj}, s₁.heap.get? b = some o → H b = none → (hidT s₁.heap H).get? b = some o := fun e n => hidT_get e n
    have noA : ∀ {b : Addr} {o : Obj} {es : Array DictEntry} {ep : Nat}, s₁.heap.get? b = some o → o.data = .dict es ep → H b = none := fun {b o es ep} e d => by
      cases q : H b with
      | none => rfl
      | some u =>
        have e' : b = a := hA b (by rw [q]; simp)
        subst e'
        rw [ha] at e; cases e
        have d' : Data.seq vs.toArray _ = Data.dict es ep := d
        cases d'
    have nsK : ∀ {b : Addr} {m : Str → Option Value}, s₁.heap.Ns b m → (hidT s₁.heap H).Ns b m := fun {b m} ⟨o, es, ep, e, d, r⟩ => ⟨o, es, ep, base_of e (noA e d), d, r⟩
    have hKb : K.In (hidT s₁.heap H) := fun b o e => base_of (KX b o e) (by
      cases q : H b with
      | none => rfl
      | some u =>
        have e' : b = a := hA b (by rw [q]; simp)
        subst e'
        rw [hK (by rw [q]; simp)] at e; cases e)
    have hM : Mod K mg (hidT s₁.heap H) := ⟨hKb, nsK hns, ⟨mb, nsK hb, hbb⟩, let ⟨mc, h1, h2⟩ := hlim; ⟨mc, nsK h1, h2⟩⟩
    have e0 : Env0 P w K mg (hidT s₁.heap H) callerA [] s₁ H := ⟨rfl, hM, fun b o e => of_hidT e, Nat.le_of_eq (hidT_size _ _), trivial, fun b hb => absurd (show b ∈ ([] : List Addr) from hb) (by simp), hok, .of_eq hg⟩
    refine codeAny_mono ((F _ hKb (nsK hns)).run callerA [] s₁ H ⟨[.ref a], []⟩ [.ref a] [.ref a] _ _ hr e0 (hbind s₁ (.ref a)) (.cons rfl .nil) (hsp H hO hS)) fun r s' h => ?_
    cases r with
    | error e => exact (hCX H e s' h).elim
    | ok fl =>
      cases fl with
      | next => exact False.elim h
      | brk => exact False.elim h
      | cont => exact False.elim h
      | ret u =>
        obtain ⟨v, H', os, bare, un, hok', r', q⟩ := h
        have q' : v = .bl true := q
        subst q'
        obtain rfl : u = Value.bool true := r'
        refine ⟨rfl, OldK.of_keep fun b o e => ?_, os, bare⟩
        cases q : H b with
        | none => exact un.keep b o e q (by intro z; exact absurd (show b ∈ ([] : List Addr) from z) (by simp)) (by simp)
        | some u =>
          rcases hO b with z | ⟨ob, xs, z⟩
          · rw [q] at z; cases z
          · have z2 := un.frzs b ob _ z
            obtain ⟨e1, _⟩ := hok b _ z
            obtain ⟨e2, _⟩ := hok' b _ z2
            rw [e] at e1; cases e1
            exact e2
  cases hk : K.lookup a with
  | some o =>
    have e := KX a o hk
    rw [ha] at e
    cases e
    refine core (fun _ => none) (fun _ => .inl rfl) (.inr ⟨_, vs.toArray, _, hk, rfl, rfl, rfl, by rw [List.size_toArray, lenV]; exact hl, by simpa using rv⟩) (fun b u z => by have z' : (none : Option HO) = some u := z; cases z') (fun b z => absurd rfl z) fun z => absurd rfl z
  | none =>
    refine core (fun b => if b = a then some (.frz { cls := .type "list", data := .seq vs.toArray } (.lst (ns.map V.int))) else none) (fun b => ?_) (.inl (.inr ⟨{ cls := .type "list", data := .seq vs.toArray }, if_pos rfl⟩)) (fun b u z => ?_) (fun b z => ?_) fun _ => hk
    · by_cases hb : b = a
      · exact .inr ⟨_, _, if_pos hb⟩
      · exact .inl (if_neg hb)
    · by_cases hb : b = a
      · have z' := (if_pos hb).symm.trans z
        cases z'
        subst hb
        exact ⟨ha, by rw [List.length_map]; exact hl, vs, _, rv, ha⟩
      · have z' := (if_neg hb).symm.trans z
        cases z'
    · by_cases hb : b = a
      · exact hb
      · exact absurd (if_neg hb) z
end L2
namespace L2
open PySem PySem.Spec PyProof.Rows
theorem walk_of {l : PySem.W.OpenLaw} {n k : Nat} {q : Program} {loose : List Str} {XP : (Str → Option Value) → Heap → Prop} {YP : World → Heap → Prop} {d : DefRec} {K : Params → PySem.W.Frag} {CX : World → CXT} {sp : World → Sp} {x : Str}
    (hn : l.most = some n) (hn2 : n ≤ sizeLine) (hdf : d.params.defaults = []) (hr : Room k callerA)
    (hY : ∀ (w : World) (h : Heap), YP w h → (K w.params).In h)
    (F : ∀ (w : World) (mg : Str → Option Value) (fa : Addr) (h : Heap), (K w.params).In h → h.Ns mainGlobals mg → mg d.name = some (.ref fa) →
      ∃ fd : FuncData, (∀ (s : Shared) (u : Value), BindsTo s fd ⟨[u], []⟩ [(x, u)]) ∧
        ∀ base : Heap, (K w.params).In base → base.Ns mainGlobals mg → FnOk l.prog w (K w.params) mg base (CX w) k fa fd [x] (sp w))
    (hsp : ∀ (w : World) (H : Hp) (a : Addr) (ns : List Int), ns.length ≤ n → Only H → SqL (K w.params) H a (ns.map V.int) → sp w [.ref a] H (fun v _ => v = .bl true) fun _ _ _ => False)
    (hCX : ∀ (w : World) (H : Hp) (s : Shared) (e : Value) (s' : Shared), CX w [] H s (fun _ _ _ => False) e s' → False) :
    PySem.W.WalkO q loose XP YP l.row.toRowW d [] (fun f vs => PySem.call f vs) := by
  refine Att.attach_call hn hdf fun w s₀ s₁ mg mb fa o pm cd doc a vs ns G Y ho hd hcd hmg hobj hints hlen hg => ?_
  have KX := hY w _ Y
  obtain ⟨fd, hb, hF⟩ := F w mg fa _ KX G.T.g hmg
  exact law_call KX G.T.g G.T.b G.T.builtins G.T.nolimit hg hobj hints (Nat.le_trans hlen hn2) hr hF hb (fun H hO hS => hsp w H a ns hlen hO hS) fun H e s' => hCX w H s₁ e s'
end L2
namespace L2
open PySem PySem.Spec PyProof.Rows
def inClass (s : Stmt) (j : Nat) : Stmt := match s with
  | .ClassDef _ _ _ body _ _ _ _ _ _ _ => body.getD j (.Pass ⟨0, 0, 0, 0⟩)
  | _ => .Pass ⟨0, 0, 0, 0⟩
def defArgs (s : Stmt) : Arguments := match s with
  | .FunctionDef _ a _ _ _ _ _ _ _ _ => a
  | _ => { posonlyargs := [], args := [], vararg := none, kwonlyargs := [], kw_defaults := [], kwarg := none, defaults := [] }
def defBody (s : Stmt) : List Stmt := match s with
  | .FunctionDef _ _ b _ _ _ _ _ _ _ => b
  | _ => []
def defScope (s : Stmt) : Scope := match s with
  | .FunctionDef _ _ _ _ _ _ sc _ _ _ => sc
  | _ => { kind := .function, names := [], isGenerator := false, isCoroutine := false }
abbrev CX0 : CXT := fun _ _ _ _ _ _ => False
abbrev E0 : XK := fun _ _ _ => False
structure Fun (K : PySem.W.Frag) (x qual : Str) (st : Stmt) (f : Addr) (fd : FuncData) : Prop where
  ex : ∃ (oc : Value) (od : Option Addr) (kV doc pm : Value) (an : Option Addr) (cdv ct : Value) (osl : Array (Option Value)),
    fd = PySem.W.fnOf x qual (defArgs st) (defBody st) (defScope st) .none kV doc pm an cdv ct ∧ K.lookup f = some ⟨oc, od, .func fd, osl⟩ ∧ PySem.W.codeIn K cdv qual = true
  kp : PySem.W.keepIn K (.ref f) = true
section
variable {P : Program} {w : World} {K : PySem.W.Frag} {mg : Str → Option Value} {base : Heap}
theorem Fun.ok {x qual : Str} {st : Stmt} {f : Addr} {fd : FuncData} {N ps : List Str} {k : Nat} {sp : Sp} (F : Fun K x qual st f fd) (S : FnScope N ps (defScope st)) (len : ∀ vs H Q E, sp vs H Q E → vs.length = ps.length)
    (hbody : ∀ (cdv : Value) (A : Around) (outer : List Env) (s : Shared) (H : Hp) (vs : List V) (Q : VK) (E : XK), Room k (A.deeper (envOfC qual (defScope st) s.heap.objs.size f cdv)) → sp vs H Q E →
      ∃ t, PSs (cxOf CX0 P w K mg base N qual (defScope st) f cdv A outer s H E).nox (defBody st) t ∧ t { nx := fun _ H' => Q .non H', rt := Q } (start N vs) H) : FnOk P w K mg base CX0 (k + 1) f fd ps sp := by
  obtain ⟨oc, od, kV, doc, pm, an, cdv, ct, osl, rfl, lk, hcd⟩ := F.ex
  refine fn_of lk hcd S len fun A outer s H vs Q E hr hsp => ?_
  obtain ⟨t, h, q⟩ := hbody cdv A outer s H vs Q E hr hsp
  exact ⟨t, h.nox, q⟩
theorem Fun.binds {x qual : Str} {st : Stmt} {f : Addr} {fd : FuncData} {ps : List Str} (F : Fun K x qual st f fd)
    (h : ∀ (kV doc pm : Value) (an : Option Addr) (cdv ct : Value) (us : List Value), us.length = ps.length → bindArgs (PySem.W.fnOf x qual (defArgs st) (defBody st) (defScope st) .none kV doc pm an cdv ct) ⟨us, []⟩ = pure (ps.zip us)) : Binds K fd ps [] := by
  obtain ⟨oc, od, kV, doc, pm, an, cdv, ct, osl, rfl, lk, hcd⟩ := F.ex
  exact .all (h kV doc pm an cdv ct)
theorem fun_mk {x qual : Str} {st : Stmt} {f : Addr} {oc : Value} {od an : Option Addr} {osl : Array (Option Value)} {kV doc pm cdv ct : Value} (l : K.lookup f = some ⟨oc, od, .func (PySem.W.fnOf x qual (defArgs st) (defBody st) (defScope st) .none kV doc pm an cdv ct), osl⟩)
    (c : PySem.W.codeIn K cdv qual = true) (k : PySem.W.keepIn K (.ref f) = true) : Fun K x qual st f (PySem.W.fnOf x qual (defArgs st) (defBody st) (defScope st) .none kV doc pm an cdv ct) := ⟨⟨oc, od, kV, doc, pm, an, cdv, ct, osl, rfl, l, c⟩, k⟩
end
theorem small1000 {n : Nat} (h : n ≤ 1000) : n < sizeLine := Nat.lt_of_le_of_lt h (by decide)
section
variable {X : Cx}
theorem pv (i : Nat) {x : Str} {pos : Pos} (hN : X.N[i]? = some x := by rfl) (hv : Vis X.env.scope x := by first | exact Or.inl rfl | exact Or.inr (Or.inl rfl) | exact Or.inr (Or.inr rfl)) (hd : (x == ("__debug__" : Str)) = false := by decide)
    (hcd : (x == ("__classdict__" : Str)) = false := by decide) : PE X (.Name x pos) (tVar i) := pe_var hN hv hd hcd
end
theorem iteF {A B : Prop} (h : B) : if false = true then A else B := by
  rw [if_neg Bool.false_ne_true]
  exact h
theorem iteT {A B : Prop} (h : A) : if true = true then A else B := by
  rw [if_pos rfl]
  exact h
theorem ite2 {c A B : Prop} [Decidable c] (h1 : c → A) (h2 : ¬ c → B) : if c then A else B := by
  by_cases h : c
  · rw [if_pos h]
    exact h1 h
  · rw [if_neg h]
    exact h2 h
def Same (H H' : Hp) : Prop := ∀ b o, H b = some o → H' b = some o
theorem Same.refl (H : Hp) : Same H H := fun _ _ h => h
theorem Same.trans {H H1 H2 : Hp} (a : Same H H1) (b : Same H1 H2) : Same H H2 := fun c o h => b c o (a c o h)
theorem Same.free {H H' : Hp} (e : Same H H') {l : Addr} (h : H' l = Option.none) : H l = Option.none := by
  cases q : H l with
  | none => rfl
  | some o =>
    rw [e l o q] at h
    cases h
theorem Same.seq {K : PySem.W.Frag} {H H' : Hp} {a : Addr} {xs : List V} (e : Same H H') (h : SqL K H a xs) : SqL K H' a xs := by
  rcases h with (h | ⟨o, h⟩) | h
  · exact .inl (.inl (e _ _ h))
  · exact .inl (.inr ⟨o, e _ _ h⟩)
  · exact .inr h
end L2
set_option maxRecDepth 100000
namespace L2
open PySem PySem.Spec PyProof.Rows
def closG (env : Env) : List (Str × NameKind) → List (Str × Addr) → List (Str × Addr)
  | [], cs => cs
  | (n, k) :: r, cs => closG env r (if k == .free then (n, (env.cells.lookup n).getD 0) :: cs else cs)
theorem closG_for {env : Env} : ∀ (names : List (Str × NameKind)) (cs : List (Str × Addr)), (∀ p ∈ names, p.2 = .free → ∃ c, env.cells.lookup p.1 = some c) →
    (forIn names cs (fun (x : Str × NameKind) (r : List (Str × Addr)) => (do if x.2 == .free then pure (.yield ((x.1, ← cellOf env x.1) :: r)) else pure (.yield r) : Sem (ForInStep (List (Str × Addr)))))) = (pure (closG env names cs) : Sem _)
  | [], cs, _ => rfl
  | (n, k) :: r, cs, h => by
    rw [List.forIn_cons]
    by_cases hk : (k == NameKind.free) = true
    · obtain ⟨c, e⟩ := h (n, k) List.mem_cons_self (by simpa using hk)
      have ec : cellOf env n = pure c := by unfold cellOf; rw [show env.cells.lookup n = some c from e]
      simp only [hk, if_true, ec, pure_bind]
      rw [closG_for r _ fun p hp => h p (List.mem_cons_of_mem _ hp)]
      simp only [closG, hk, if_true, show env.cells.lookup n = some c from e, Option.getD_some]
    · simp only [hk, if_false, pure_bind, Bool.false_eq_true]
      rw [closG_for r _ fun p hp => h p (List.mem_cons_of_mem _ hp)]
      simp only [closG, hk, if_false, Bool.false_eq_true]
theorem closureFor_G {scope : Scope} {env : Env} (h : ∀ p ∈ scope.names, p.2 = .free → ∃ c, env.cells.lookup p.1 = some c) : closureFor scope env = pure (closG env scope.names []) := by
  rw [← closG_for scope.names [] h]
  simp only [closureFor]
  rw [bind_pure]
theorem closG_look {env : Env} {x : Str} {c : Addr} : ∀ (names : List (Str × NameKind)) (cs : List (Str × Addr)), (∀ p ∈ names, p.2 = .free → ∃ c, env.cells.lookup p.1 = some c) →
    (closG env names cs).lookup x = some c → cs.lookup x = some c ∨ env.cells.lookup x = some c
  | [], cs, _, h => .inl h
  | (n, k) :: r, cs, hf, h => by
    have hf' : ∀ p ∈ r, p.2 = .free → ∃ c, env.cells.lookup p.1 = some c := fun p hp => hf p (List.mem_cons_of_mem _ hp)
    unfold closG at h
    rcases closG_look r _ hf' h with q | q
    · by_cases hk : (k == NameKind.free) = true
      · rw [if_pos hk] at q
        obtain ⟨c', e⟩ := hf (n, k) List.mem_cons_self (by simpa using hk)
        have e : env.cells.lookup n = some c' := e
        rw [e, Option.getD_some, List.lookup_cons] at q
        cases hx : (x == n) with
        | true =>
          rw [hx] at q
          have : x = n := by simpa using hx
          subst this
          cases q
          exact .inr e
        | false => rw [hx] at q; exact .inl q
      · rw [if_neg hk] at q; exact .inl q
    · exact .inr q
theorem closG_has {env : Env} {x : Str} : ∀ (names : List (Str × NameKind)) (cs : List (Str × Addr)), ((x, NameKind.free) ∈ names ∨ ∃ c, cs.lookup x = some c) → ∃ c, (closG env names cs).lookup x = some c
  | [], cs, h => by
    rcases h with h | h
    · cases h
    · exact h
  | (n, k) :: r, cs, h => by
    unfold closG
    refine closG_has r _ ?_
    rcases h with h | ⟨c, h⟩
    · rcases List.mem_cons.mp h with e | h
      · cases e
        right
        rw [if_pos (by rfl), List.lookup_cons]
        simp
      · exact .inl h
    · right
      split
      · rw [List.lookup_cons]
        cases (x == n) with
        | true => exact ⟨_, rfl⟩
        | false => exact ⟨c, h⟩
      · exact ⟨c, h⟩
theorem relabel_free {env : Env} : ∀ {names : List (Str × NameKind)} {x : Str}, names.lookup x = some .free →
    ((names.map fun (n, k) => if (k == NameKind.free && env.scope.kind == .function && env.kindOf n == some .cell) then (n, NameKind.cell) else (n, k)).lookup x = some .cell ∨
     (names.map fun (n, k) => if (k == NameKind.free && env.scope.kind == .function && env.kindOf n == some .cell) then (n, NameKind.cell) else (n, k)).lookup x = some .free)
  | [], _, h => by simp at h
  | (n, k) :: r, x, h => by
    have ih := @relabel_free env r x
    rw [List.map_cons]
    cases hx : x == n with
    | true =>
      simp only [List.lookup_cons, hx] at h
      cases h
      dsimp only
      split
      · left; rw [List.lookup_cons, hx]
      · right; rw [List.lookup_cons, hx]
    | false =>
      simp only [List.lookup_cons, hx] at h
      dsimp only
      split
      · simp only [List.lookup_cons, hx]; exact ih h
      · simp only [List.lookup_cons, hx]; exact ih h
theorem relabel_inv {env : Env} : ∀ {names : List (Str × NameKind)} {x : Str} {k : NameKind}, k = .cell ∨ k = .free →
    (names.map fun (n, k) => if (k == NameKind.free && env.scope.kind == .function && env.kindOf n == some .cell) then (n, NameKind.cell) else (n, k)).lookup x = some k → ∃ k', (k' = .cell ∨ k' = .free) ∧ (x, k') ∈ names
  | [], _, _, _, h => by simp at h
  | (n, k) :: r, x, k', hk, h => by
    have ih := @relabel_inv env r x k' hk
    rw [List.map_cons] at h
    cases hx : x == n with
    | true =>
      have : x = n := by simpa using hx
      subst this
      dsimp only at h
      split at h
      · rename_i hc
        rw [List.lookup_cons, hx] at h
        refine ⟨k, .inr ?_, List.mem_cons_self⟩
        simp only [Bool.and_eq_true] at hc
        simpa using hc.1.1
      · rw [List.lookup_cons, hx] at h
        cases h
        exact ⟨_, hk, List.mem_cons_self⟩
    | false =>
      dsimp only at h
      have h' : (r.map fun (n, k) => if (k == NameKind.free && env.scope.kind == .function && env.kindOf n == some .cell) then (n, NameKind.cell) else (n, k)).lookup x = some k' := by
        split at h
        · simpa only [List.lookup_cons, hx] using h
        · simpa only [List.lookup_cons, hx] using h
      obtain ⟨k2, a, b⟩ := ih h'
      exact ⟨k2, a, List.mem_cons_of_mem _ b⟩
def cxComp (X : Cx) (scope : Scope) (N : List Str) (fp : List Addr) (s : Shared) (H : Hp) : Cx :=
  { X with N := N, s₀ := s, H₀ := H, env := compEnvC scope (closG X.env scope.names []) s.heap.objs.size X.env, outer := X.stack, stack := X.stack, ex := fp, fn := fun _ => false, pn := [], xe := fun _ _ => False }
def seen (js : List (Option Nat)) (σ : St) : St := js.map fun o => o.bind fun j => (σ[j]?).join
def compChk (X : Cx) (scope : Scope) (N : List Str) (js : List (Option Nat)) : Bool :=
  (scope.names.all fun p => p.2 != .cell && (p.2 != .free || X.env.kindOf p.1 == some .cell) && (p.2 != .local || scope.names.lookup p.1 == some .local)) &&
  (js.length == N.length) && ((N.zip js).all fun p => match p.2 with | none => true | some j => X.N[j]? == some p.1 && scope.names.lookup p.1 == some .free && X.env.kindOf p.1 == some .cell)
section
variable {X : Cx} {tg iter elt : Expr} {scope : Scope} {N : List Str} {js : List (Option Nat)} {pos : Pos}
theorem comp_start {pins : List (Addr × Obj)} {σ : St} {H : Hp} {s : Shared} {h' : Heap} {fp : List Addr} {t' : Nat} (I : Inv X pins σ H s) (hk : scope.kind = .function) (hck : compChk X scope N js = true)
    (hf : ∀ b ∈ fp, FpOk X pins H b) (hfl : ∀ b ∈ fp, b < s.heap.objs.size) (hns : h'.Ns s.heap.objs.size (fun _ => none)) (kp : ∀ b o, s.heap.get? b = some o → h'.get? b = some o) :
    Inv (cxComp X scope N fp s H) [] (seen js σ) H { s with heap := h', toks := t' } := by
  unfold compChk at hck
  simp only [Bool.and_eq_true] at hck
  obtain ⟨⟨h1, h2⟩, h3⟩ := hck
  have hlen : js.length = N.length := by simpa using h2
  have g1 : ∀ p ∈ scope.names, p.2 ≠ .cell ∧ (p.2 = .free → X.env.kindOf p.1 = some .cell) := fun p hp => by
    have q := List.all_eq_true.mp h1 p hp
    simp only [Bool.and_eq_true, bne_iff_ne, ne_eq, Bool.or_eq_true, beq_iff_eq] at q
    exact ⟨q.1.1, fun e => q.1.2.resolve_left fun z => z e⟩
  have hcl : ∀ p ∈ scope.names, p.2 = .free → ∃ c, X.env.cells.lookup p.1 = some c := fun p hp e => I.ok.has _ (.inl ((g1 p hp).2 e))
  have back : ∀ x c, (closG X.env scope.names []).lookup x = some c → X.env.cells.lookup x = some c := fun x c e => by
    rcases closG_look _ _ hcl e with q | q
    · cases q
    · exact q
  refine ⟨⟨I.ok.mod, ?_, I.ok.glob, I.ok.blt, Nat.le_refl _, fun x y c h1 h2 => I.ok.inj x y c (back _ _ h1) (back _ _ h2), fun x hx => ?_, fun _ _ z => (by cases z), I.ok.hd, I.ok.frames, .inl rfl, fun b hb => ⟨?_, fun x c e => ?_⟩, I.bs, Nat.le_trans I.ok.bsz I.sz, fun b o e hb => ?_, fun b hb => ?_, I.stack, I.stkFree⟩,
    rfl, I.bare, Un.kept kp, ⟨_, hns, fun i x v e1 e2 e3 => ?_⟩, fun x c e => ?_, I.hok.fresh (Nat.le_refl _), fun x c e => I.freeC x c (back _ _ e), fun p hp => (by cases hp), I.hok.kept kp, ?_⟩
  · show (relabel scope X.env).kind = _
    exact hk
  · have hx' : ∃ k, (k = .cell ∨ k = .free) ∧ (relabel scope X.env).names.lookup x = some k := by
      rcases hx with q | q
      · exact ⟨_, .inl rfl, q⟩
      · exact ⟨_, .inr rfl, q⟩
    obtain ⟨k, hk2, q⟩ := hx'
    obtain ⟨k', a, b⟩ := relabel_inv (env := X.env) hk2 q
    rcases a with a | a
    · exact absurd a (g1 _ b).1
    · subst a
      exact closG_has _ _ (.inl b)
  · exact Nat.ne_of_lt (hfl b hb)
  · exact (hf b hb).2.2.2.2.1 x c (back _ _ e)
  · rcases (hf b hb).2.2.2.1 with z | z
    · exact I.ok.noex b o e z
    · exact absurd (Nat.lt_of_lt_of_le (Heap.lt_size e) (Nat.le_trans I.ok.bsz z)) (Nat.lt_irrefl _)
  · intro hb2
    obtain ⟨_, q1, q2, _⟩ := hf b hb
    rcases List.mem_cons.mp (I.stkSub b hb2) with z | z
    · exact q1 z
    · exact q2 z
  · have e1 : N[i]? = some x := e1
    unfold seen at e2
    rw [List.getElem?_map] at e2
    cases ej : js[i]? with
    | none => rw [ej] at e2; cases e2
    | some o =>
      rw [ej] at e2
      cases o with
      | none => cases e2
      | some j =>
        have e2 : (σ[j]?).join = some v := by simpa using e2
        have e4 : σ[j]? = some (some v) := by
          cases q : σ[j]? with
          | none => rw [q] at e2; cases e2
          | some w => rw [q] at e2; cases e2; rfl
        have hz : (N.zip js)[i]? = some (x, some j) := by
          rw [List.getElem?_zip_eq_some]; exact ⟨e1, ej⟩
        have q := List.all_eq_true.mp h3 _ (List.mem_of_getElem? hz)
        simp only [Bool.and_eq_true, beq_iff_eq] at q
        obtain ⟨⟨q1, q2⟩, q3⟩ := q
        obtain ⟨m, hn, hl⟩ := I.loc
        obtain ⟨u, r, l⟩ := hl j x v q1 e4 (.inr (.inl q3))
        refine ⟨u, r, ?_⟩
        rcases l with ⟨l, _⟩ | ⟨_, c, l2, l3⟩
        · rw [q3] at l; cases l
        · obtain ⟨c', hc'⟩ := closG_has (env := X.env) (x := x) scope.names [] (.inl (PySem.mem_of_lookup q2))
          have e5 := back _ _ hc'
          rw [l2] at e5
          cases e5
          refine .inr ⟨?_, c, hc', ?_⟩
          · exact relabel_free q2
          · obtain ⟨o, ho, hd⟩ := l3
            exact ⟨o, kp _ _ ho, hd⟩
  · obtain ⟨v, o, ho, hd⟩ := I.cell x c (back _ _ e)
    exact ⟨v, o, kp _ _ ho, hd⟩
  · show (seen js σ).length = N.length
    unfold seen
    rw [List.length_map, hlen]
theorem compLoop_any {prog : Program} {w : World} {A : Around} {R : Result → Shared → Prop} {s : Shared} {it acc : Value} {env : Env} (I : Nat → Shared → Prop)
    (turn : ∀ n s, I n s → wpAny (model prog w) A (pyNext it) (fun r s₁ => match r with
      | none => R (.ok .next) s₁
      | some v => wpAny (model prog w) A (letOwnedTupleGo tg it v) (fun _ s₁' => wpAny (model prog w) A (assign tg env v) (fun _ s₂ =>
          wpAny (model prog w) A (eval elt env) (fun x s₄ =>
              wpAny (model prog w) A (call (.builtin "list.append") [acc, x]) (fun _ s₅ => ∃ m, m < n ∧ I m s₅) (fun _ _ => False) s₄) (fun _ _ => False) s₂) (fun _ _ => False) s₁') (fun _ _ => False) s₁) (fun _ _ => False) s)
    (n : Nat) (h : I n s) :
    codeAny (model prog w) A (.compLoop (.ListComp elt [⟨tg, iter, [], 0⟩] scope pos) 0 it acc env) R s := by
  refine codeAny_loop rfl I (fun n s hI => ?_) n h
  show wpAny _ A ((compTurn (.ListComp elt [⟨tg, iter, [], 0⟩] scope pos) 0 it acc env).onRaise (fun x => do noteFrame x env; theTreesLotGoes x)) _ _ s
  refine wpAny_noted ?_
  rw [compTurn_list1]
  refine wpAny_bind (wpAny_standAt (wpAny_bind (wpAny_mono (turn n s hI) (fun r s₁ h₁ => ?_) fun _ _ h' => h'.elim)))
  cases r with
  | none => exact wpAny_pure h₁
  | some v =>
    refine wpAny_bind (wpAny_mono h₁ (fun _ s₁' h₁' => ?_) fun _ _ h' => h'.elim)
    refine wpAny_bind (wpAny_mono h₁' (fun _ s₂ h₂ => ?_) fun _ _ h' => h'.elim)
    exact wpAny_bind (wpAny_bind (wpAny_mono h₂ (fun x s₄ h₄ => wpAny_bind (wpAny_mono h₄ (fun _ s₅ h₅ => wpAny_pure (wpAny_pure ⟨rfl, h₅⟩)) fun _ _ h' => h'.elim)) fun _ _ h' => h'.elim))
def tComp (js : List (Option Nat)) (wi : TI) (g : TG) (te : TE) : TE := fun σ H Q => wi σ H fun J H1 => ∀ D, H1 D = none → ∃ W : Nat → Nat → St → Hp → Prop, (∃ m, W 0 m (seen js σ) (upd H1 D (.lst []))) ∧
  ∀ i m σ' H', W i m σ' H' → (J.stop i H' ∧ Q (.ref D) H') ∨ (J.go i H' ∧ ∀ x H2, J.yld i H' x H2 → g x σ' H2 fun σ3 H3 => te σ3 H3 fun v H4 => ∃ xs, H4 D = some (.lst xs) ∧ xs.length < sizeLine ∧ ∃ m', m' < m ∧ W (i + 1) m' σ3 (upd H4 D (.lst (xs ++ [v]))))
theorem comp_core {wi : TI} {g : TG} {te : TE} {use : Option (Value → Sem Unit)} {Qv : Value → Shared → Prop} (hc : X.calm = true) (hi : PI X tg iter wi) (hk : scope.kind = .function) (hck : compChk X scope N js = true)
    (hg : ∀ fp s H, PG (cxComp X scope N fp s H) tg g) (he : ∀ fp s H, PE (cxComp X scope N fp s H) elt te)
    (hs : ∀ x, foldedSetIterable iter X.env x = pure x)
    {pins : List (Addr × Obj)} {σ : St} {H : Hp} {s : Shared} {Q : VK} (I : Inv X pins σ H s) (h : tComp js wi g te σ H Q)
    (hend : ∀ (D C : Addr) (H' : Hp) (s' : Shared), Inv X pins σ H' s' → (∃ m, s'.heap.Ns C m) → FpOk X pins H' C → Q (.ref D) H' → compPost (model X.prog X.w) X.A X.xe use Qv (.ref D) C (.ok .next) s') :
    wpAny (model X.prog X.w) X.A (comprehension (.ListComp elt [⟨tg, iter, [], 0⟩] scope pos) scope X.env (firstIterPos [⟨tg, iter, [], 0⟩] pos) (newList []) false (eval iter X.env) use) Qv X.xe s := by
  have hck' := hck
  unfold compChk at hck'
  simp only [Bool.and_eq_true] at hck'
  obtain ⟨⟨h1, _⟩, _⟩ := hck'
  have g1 : ∀ p ∈ scope.names, p.2 ≠ .cell ∧ (p.2 = .free → X.env.kindOf p.1 = some .cell) ∧ (p.2 = .local → scope.names.lookup p.1 = some .local) := fun p hp => by
    have q := List.all_eq_true.mp h1 p hp
    simp only [Bool.and_eq_true, bne_iff_ne, ne_eq, Bool.or_eq_true, beq_iff_eq] at q
    exact ⟨q.1.1, fun e => q.1.2.resolve_left fun z => z e, fun e => q.2.resolve_left fun z => z e⟩
  have hcl : ∀ p ∈ scope.names, p.2 = .free → ∃ c, X.env.cells.lookup p.1 = some c := fun p hp e => I.ok.has _ (.inl ((g1 p hp).2.1 e))
  refine wpAny_comprehension_free (use := use) (g := ⟨tg, iter, [], 0⟩) (gs := []) rfl hs (closureFor_G hcl) hk (fun p hp e => (g1 p hp).2.2 e) ?_
  refine thn (hi pins s σ H _ I h) fun v s1 h1 => thn h1 fun itv s2 h2 => ?_
  obtain ⟨it, fp, tn, J, H2, e, I2, T, st2, f2, hW⟩ := h2
  subst e
  have hfl : ∀ b ∈ fp, b < s2.heap.objs.size := fun b hb => by
    obtain ⟨o, ho, _⟩ := T.obj _ _ st2 b hb
    exact Heap.lt_size ho
  have hD : H2 s2.heap.objs.size = none := I2.hok.fresh (Nat.le_refl _)
  obtain ⟨W, ⟨m0, w0⟩, turn⟩ := hW _ hD
  refine wpAny_newObj_type (wpAny_newFunctionEnv (fun x hx => (g1 x hx).1) (by intro y hy; simp at hy) (fun h₁ hns₁ hsb₁ => ?_) hk)
  dsimp only at hns₁ hsb₁ ⊢
  have I3 : Inv X pins σ (upd H2 s2.heap.objs.size (.lst [])) { s2 with heap := s2.heap.push { cls := .type "list", dict := none, data := .seq ([] : List Value).toArray }, toks := s2.toks } :=
    I2.laid (t' := s2.toks) (fun b u e => Heap.get?_push_of_some _ e) (Nat.le_refl _) ⟨Nat.zero_le _, [], 0, .nil, Heap.get?_push_size _ rfl⟩
  generalize hs3 : ({ s2 with heap := s2.heap.push { cls := .type "list", dict := none, data := .seq ([] : List Value).toArray }, toks := s2.toks } : Shared) = s3 at I3
  have hh3 : s3.heap = s2.heap.push { cls := .type "list", dict := none, data := .seq ([] : List Value).toArray } := by rw [← hs3]
  have e3 : ({ s2 with heap := h₁, toks := s2.toks + ([] : List (Str × Value)).length } : Shared) = { s3 with heap := h₁, toks := s3.toks } := by rw [← hs3]; rfl
  rw [e3]
  rw [← hh3] at hns₁ hsb₁ ⊢
  generalize hH3 : upd H2 s2.heap.objs.size (.lst []) = H3 at I3 w0
  generalize hDs : s2.heap.objs.size = D at *
  have f3 : ∀ b ∈ fp, FpOk X pins H3 b := fun b hb => by
    refine ⟨?_, (f2 b hb).2⟩
    rw [← hH3, upd_ne (Nat.ne_of_lt (hfl b hb))]
    exact (f2 b hb).1
  have szD : s3.heap.objs.size = D + 1 := by rw [hh3, Heap.size_push]; rw [← hDs]
  have hfl3 : ∀ b ∈ fp, b < s3.heap.objs.size := fun b hb => Nat.lt_of_lt_of_le (hfl b hb) (by rw [szD]; exact Nat.le_succ _)
  have kp : ∀ b o, s3.heap.get? b = some o → h₁.get? b = some o := fun b o e => by
    rw [hsb₁.2 b (Nat.ne_of_lt (Heap.lt_size e))]
    exact Heap.get?_push_of_some _ e
  have st3 : tn 0 h₁ := T.keep 0 _ _ st2 fun b hb o e => kp b o (by rw [hh3]; exact Heap.get?_push_of_some _ e)
  have J0 : Inv (cxComp X scope N fp s3 H3) [] (seen js σ) H3 { s3 with heap := h₁, toks := s3.toks } := comp_start I3 hk hck f3 hfl3 hns₁ kp
  have fpc : ∀ {H' : Hp}, (∀ b ∈ fp, H' b = none) → ∀ b ∈ fp, FpOk (cxComp X scope N fp s3 H3) [] H' b := fun hn b hb =>
    ⟨hn b hb, (J0.ok.exf b hb).1, J0.ok.exfs b hb, .inl hb, (J0.ok.exf b hb).2, fun p hp => by cases hp⟩
  have lp : codeAny (model X.prog X.w) X.A (.compLoop (.ListComp elt [⟨tg, iter, [], 0⟩] scope pos) 0 (.ref it) (.ref D) (compEnvC scope (closG X.env scope.names []) s3.heap.objs.size X.env))
      (compPost (model X.prog X.w) X.A X.xe use Qv (.ref D) s3.heap.objs.size) { s3 with heap := h₁, toks := s3.toks } := by
    refine compLoop_any (fun n s' => ∃ i σ' H', Inv (cxComp X scope N fp s3 H3) [] σ' H' s' ∧ tn i s'.heap ∧ (∀ b ∈ fp, H' b = none) ∧ W i n σ' H') ?_ m0 ⟨0, _, H3, J0, st3, fun b hb => (f3 b hb).1, w0⟩
    rintro n s4 ⟨i, σ4, H4, I4, st4, fr4, w4⟩
    rcases turn i n σ4 H4 w4 with ⟨stop, qn⟩ | ⟨go, step⟩
    · refine thn (T.done (cxComp X scope N fp s3 H3) rfl rfl rfl hc i [] s4 σ4 H4 (fun _ _ => False) I4 (fpc fr4) st4 stop) fun r s5 ⟨hr, I5⟩ => ?_
      subst hr
      have I6 : Inv X pins σ H4 s5 := I3.call' (ch := fp) I5.os I5.base I5.hok I5.bare fun b hb => ⟨(f3 b hb).2.2.2.1, (f3 b hb).2.1, (f3 b hb).2.2.2.2.1, (f3 b hb).2.2.2.2.2⟩
      have fC : FpOk X pins H4 s3.heap.objs.size := I3.fpOk (Nat.le_refl _) I5.free
      obtain ⟨m, hn, _⟩ := I5.loc
      exact hend D s3.heap.objs.size H4 s5 I6 ⟨m, hn⟩ fC qn
    · refine thn (T.item (cxComp X scope N fp s3 H3) rfl rfl rfl hc i [] s4 σ4 H4 (fun _ _ => False) I4 (fpc fr4) st4 go) fun r s5 ⟨u, hr, h5⟩ => ?_
      subst hr
      refine thn h5 fun _ s6 ⟨x, H6, I6, r6, y6, st6, fr6⟩ => ?_
      have I6' := I6.pinned (fpc fr6) (T.obj _ _ st6)
      refine thn (hg fp s3 H3 _ s6 σ4 H6 x u _ I6' r6 (step x H6 y6)) fun _ s7 ⟨σ7, H7, I7, q7⟩ => ?_
      refine thn (he fp s3 H3 _ s7 σ7 H7 _ I7 q7) fun u8 s8 ⟨v8, H8, I8, r8, xs, e8, l8, m', hm, w8⟩ => ?_
      refine thn (mt_append _ s8 σ7 H8 (.ref D) [v8] (.ref D) [u8] (fun _ H9 => H9 = upd H8 D (.lst (xs ++ [v8]))) I8 rfl (.cons r8 .nil) ⟨D, xs, v8, rfl, rfl, e8, l8, rfl⟩) fun _ s9 ⟨v9, H9, I9, _, e9⟩ => ?_
      subst e9
      refine ⟨m', hm, i + 1, σ7, _, I9.unpinned, T.keep _ _ _ st6 fun b hb o e => (I9.pin (b, o) (List.mem_append_right _ (List.mem_append_right _ (mem_pinsAt hb e)))).1, fun b hb => ?_, w8⟩
      obtain ⟨o, e, d⟩ := T.obj _ _ st6 b hb
      exact (I9.pin (b, o) (List.mem_append_right _ (List.mem_append_right _ (mem_pinsAt hb e)))).2.1
  exact codeAny_compStart_list lp (T.self _ 0 _ _ _ st3 lp)
theorem pe_comp {wi : TI} {g : TG} {te : TE} (N : List Str) (js : List (Option Nat)) (hc : X.calm = true) (hi : PI X tg iter wi)
    (hg : ∀ fp s H, PG (cxComp X scope N fp s H) tg g) (he : ∀ fp s H, PE (cxComp X scope N fp s H) elt te) (hk : scope.kind = .function := by rfl) (hck : compChk X scope N js = true := by rfl)
    (hs : ∀ x, foldedSetIterable iter X.env x = pure x := by intro _; rfl) : PE X (.ListComp elt [⟨tg, iter, [], 0⟩] scope pos) (tComp js wi g te) := by
  intro pins s σ H Q I h
  rw [eval_ListComp]
  refine comp_core (use := none) hc hi hk hck hg he hs I h fun D C H' s' I' hC fC q => ?_
  obtain ⟨m, hn⟩ := hC
  refine ⟨m, hn, fun h' sb => ?_⟩
  obtain ⟨f0, f1, f2, f3, f4, f5⟩ := fC
  exact ⟨.ref D, H', I'.turned (t' := s'.toks) (fun b o hb e => (sb.2 b hb).trans e) f0 f1 f3 f4 f5, rfl, q⟩
end
end L2
set_option maxRecDepth 100000
namespace L2
open PySem PySem.Spec PyProof.Rows
section
variable {X : Cx}
def CDivL (_ j : Int) : Prop := 0 < j ∧ j < 2 ^ 250
theorem log2_small {j : Int} (h0 : 0 < j) (h : j < 2 ^ 250) : j.natAbs.log2 < 9000 := by
  have h1 : j.natAbs < 2 ^ 250 := by
    have e : (j.natAbs : Int) = j := Int.natAbs_of_nonneg (Int.le_of_lt h0)
    have : ((j.natAbs : Nat) : Int) < ((2 ^ 250 : Nat) : Int) := by rw [e]; exact h
    exact Int.ofNat_lt.mp this
  have h2 : j.natAbs ≠ 0 := by omega
  exact Nat.lt_of_lt_of_le ((Nat.log2_lt h2).mpr h1) (by decide)
theorem op_fdivL : OpR X (binaryOp .FloorDiv) (rI CDivL fun i j => .int (i / j)) := opI fun i j _ _ _ _ _ hc q => by
  refine floordiv_int (by have := hc.1; omega) ?_ (.inl (PyProof.noPylong_of_log2 (log2_small hc.1 hc.2)))
  rw [Int.fdiv_eq_ediv_of_nonneg _ (Int.le_of_lt hc.1)]
  exact q
theorem call_sum (hc : X.calm = true) : CallR X (.builtin "sum") (fun xs H Q => ∃ (p : Addr) (ns : List Int), xs = [.ref p] ∧ SqL X.K H p (ns.map V.int) ∧ Q (.int ns.sum) H) := by
  intro pins s σ H xs us Q I r h
  obtain ⟨p, ns, rfl, hq, q⟩ := h
  obtain ⟨u, rfl, rfl⟩ := vals1 r
  obtain ⟨its, rv, pl, hz⟩ := I.list hq
  have hi := intsAre_of rv
  obtain ⟨xs, e⟩ := hi.allInts.items
  have hn := hi.numsOf
  rw [show its = its.toArray.toList from rfl, e, nums_intItems] at hn
  refine sum_intListG (I.ok.hd hc) (by rw [← e]; exact pl.isList) fun h' tk t' k => ⟨.int ns.sum, H, I.kept k, ⟨t', ?_⟩, q⟩
  rw [preSum_eq, List.take_of_length_le (by simp), hn]
def tyName : V → Option String
  | .non => some "NoneType" | .bl _ => some "bool" | .int _ => some "int" | .str _ => some "str" | _ => none
def subTy (a b : String) : Bool := a == b || (a == "bool" && b == "int")
theorem kit_sub {K : PySem.W.Frag} {t n : String} (ht : t = "NoneType" ∨ t = "bool" ∨ t = "int" ∨ t = "str") (hn : n = "int" ∨ n = "bool" ∨ n = "str" ∨ n = "list" ∨ n = "tuple" ∨ n = "dict") : PySem.W.kitOne K (.type t) (.type n) = some (subTy t n) := by
  rcases ht with rfl | rfl | rfl | rfl <;> rcases hn with rfl | rfl | rfl | rfl | rfl | rfl <;> kernel_rfl
theorem pe_ty {x : Str} {n : String} {pos : Pos} (hg : Gl X x) (hm : X.mg x = none) (hv : bootBuiltins x = some (.type n)) (hn : x ≠ "__name__" := by decide) (hd : (x == ("__debug__" : Str)) = false := by decide) : PE X (.Name x pos) (tC (.ty n)) :=
  pe_bltn hg hm hv rfl hn hd
theorem boot_isinstance : bootBuiltins "isinstance" = some (.builtin "isinstance") := by decide +kernel
theorem boot_sum : bootBuiltins "sum" = some (.builtin "sum") := by decide +kernel
theorem boot_max : bootBuiltins "max" = some (.builtin "max") := by decide +kernel
theorem boot_min : bootBuiltins "min" = some (.builtin "min") := by decide +kernel
theorem boot_int : bootBuiltins "int" = some (.type "int") := by decide +kernel
theorem boot_bool : bootBuiltins "bool" = some (.type "bool") := by decide +kernel
end
structure FunD (K : PySem.W.Frag) (x qual : Str) (st : Stmt) (dV : Value) (f : Addr) (fd : FuncData) : Prop where
  ex : ∃ (oc : Value) (od : Option Addr) (kV doc pm : Value) (an : Option Addr) (cdv ct : Value) (osl : Array (Option Value)),
    fd = PySem.W.fnOf x qual (defArgs st) (defBody st) (defScope st) dV kV doc pm an cdv ct ∧ K.lookup f = some ⟨oc, od, .func fd, osl⟩ ∧ PySem.W.codeIn K cdv qual = true
  kp : PySem.W.keepIn K (.ref f) = true
section
variable {P : Program} {w : World} {K : PySem.W.Frag} {mg : Str → Option Value} {base : Heap}
theorem FunD.ok {x qual : Str} {st : Stmt} {dV : Value} {f : Addr} {fd : FuncData} {N ps : List Str} {k : Nat} {sp : Sp} (F : FunD K x qual st dV f fd) (S : FnScope N ps (defScope st)) (len : ∀ vs H Q E, sp vs H Q E → vs.length = ps.length)
    (hbody : ∀ (cdv : Value) (A : Around) (outer : List Env) (s : Shared) (H : Hp) (vs : List V) (Q : VK) (E : XK), Room k (A.deeper (envOfC qual (defScope st) s.heap.objs.size f cdv)) → sp vs H Q E →
      ∃ t, PSs (cxOf CX0 P w K mg base N qual (defScope st) f cdv A outer s H E).nox (defBody st) t ∧ t { nx := fun _ H' => Q .non H', rt := Q } (start N vs) H) : FnOk P w K mg base CX0 (k + 1) f fd ps sp := by
  obtain ⟨oc, od, kV, doc, pm, an, cdv, ct, osl, rfl, lk, hcd⟩ := F.ex
  refine fn_of lk hcd S len fun A outer s H vs Q E hr hsp => ?_
  obtain ⟨t, h, q⟩ := hbody cdv A outer s H vs Q E hr hsp
  exact ⟨t, h.nox, q⟩
theorem fund_mk {x qual : Str} {st : Stmt} {f : Addr} {oc dV : Value} {od an : Option Addr} {osl : Array (Option Value)} {kV doc pm cdv ct : Value} (l : K.lookup f = some ⟨oc, od, .func (PySem.W.fnOf x qual (defArgs st) (defBody st) (defScope st) dV kV doc pm an cdv ct), osl⟩)
    (c : PySem.W.codeIn K cdv qual = true) (k : PySem.W.keepIn K (.ref f) = true) : FunD K x qual st dV f (PySem.W.fnOf x qual (defArgs st) (defBody st) (defScope st) dV kV doc pm an cdv ct) := ⟨⟨oc, od, kV, doc, pm, an, cdv, ct, osl, rfl, l, c⟩, k⟩
theorem FunD.binds {x qual : Str} {st : Stmt} {T f : Addr} {fd : FuncData} {ps : List Str} {ds dvs : List Value} {tc : Value} {td : Option Addr} {n : Nat} {tsl : Array (Option Value)} (m : Nat) (hm : m + ds.length = ps.length) (F : FunD K x qual st (.ref T) f fd) (ht : K.lookup T = some ⟨tc, td, .seq dvs.toArray n, tsl⟩)
    (h : ∀ (kV doc pm : Value) (an : Option Addr) (cdv ct : Value) (us : List Value), us.length = m → ∃ k, bindArgs (PySem.W.fnOf x qual (defArgs st) (defBody st) (defScope st) (.ref T) kV doc pm an cdv ct) ⟨us, []⟩ = seqItems? (.ref T) >>= k ∧ k (some dvs.toArray) = pure (ps.zip (us ++ ds))) : Binds K fd ps ds := by
  obtain ⟨oc, od, kV, doc, pm, an, cdv, ct, osl, rfl, lk, hcd⟩ := F.ex
  intro s us X hl
  rw [List.length_append] at hl
  obtain ⟨k, h1, h2⟩ := h kV doc pm an cdv ct us (by omega)
  exact PySem.W.binds_K X rfl ht rfl h1 h2
def gAB {α : Type} (a b : Nat) (us ws : List α) : List α := if us.length = a ∧ ws.length = b then us ++ ws else []
theorem gAB_rel {a b : Nat} {vs : List V} {us : List Value} {zs : List V} {ws : List Value} (r : Vals vs us) (q : Vals zs ws) : Vals (gAB a b vs zs) (gAB a b us ws) := by
  unfold gAB
  rw [r.length, q.length]
  split
  · exact r.append q
  · exact .nil
theorem FunD.kbinds {x qual : Str} {st : Stmt} {T f : Addr} {fd : FuncData} {ps ks : List Str} {dvs : List Value} {tc : Value} {td : Option Addr} {n : Nat} {tsl : Array (Option Value)} (a b : Nat) (hab : 0 < ps.length)
    (F : FunD K x qual st (.ref T) f fd) (ht : K.lookup T = some ⟨tc, td, .seq dvs.toArray n, tsl⟩)
    (h : ∀ (kV doc pm : Value) (an : Option Addr) (cdv ct : Value) (us ws : List Value), us.length = a → ws.length = b → ∃ k, bindArgs (PySem.W.fnOf x qual (defArgs st) (defBody st) (defScope st) (.ref T) kV doc pm an cdv ct) ⟨us, ks.zip ws⟩ = seqItems? (.ref T) >>= k ∧ k (some dvs.toArray) = pure (ps.zip (us ++ ws))) : KBinds K fd ps ks (gAB a b) (gAB a b) := by
  obtain ⟨oc, od, kV, doc, pm, an, cdv, ct, osl, rfl, lk, hcd⟩ := F.ex
  refine ⟨fun s us ws X hl => ?_, gAB_rel⟩
  have hc : us.length = a ∧ ws.length = b := by
    unfold gAB at hl
    split at hl
    · assumption
    · rw [List.length_nil] at hl; omega
  obtain ⟨k, h1, h2⟩ := h kV doc pm an cdv ct us ws hc.1 hc.2
  have e : gAB a b us ws = us ++ ws := by unfold gAB; rw [if_pos hc]
  rw [e]
  exact PySem.W.binds_K X rfl ht rfl h1 h2
end
end L2
set_option maxRecDepth 100000
namespace L2
open PySem PySem.Spec PyProof.Rows
section
variable {X : Cx}
def intsOf : List V → Option (List Int)
  | [] => some []
  | .int i :: r => match intsOf r with
    | some ns => some (i :: ns)
    | none => none
  | _ :: _ => none
theorem intsOf_eq : ∀ {vs : List V} {ns : List Int}, intsOf vs = some ns → vs = ns.map V.int
  | [], ns, h => by cases h; rfl
  | .int i :: r, ns, h => by
    unfold intsOf at h
    cases e : intsOf r with
    | none => rw [e] at h; cases h
    | some ms => rw [e] at h; cases h; rw [intsOf_eq e]; rfl
  | .non :: _, _, h => by cases h
  | .bl _ :: _, _, h => by cases h
  | .str _ :: _, _, h => by cases h
  | .byt _ :: _, _, h => by cases h
  | .flt _ :: _, _, h => by cases h
  | .ref _ :: _, _, h => by cases h
  | .ty _ :: _, _, h => by cases h
def menu (ns : List Int) (k : Int) : Int := ns.getD k.toNat 0
def tMenu (t : TA) (ti : TE) : TE := fun σ H Q => t σ H fun vs H1 => vs.length ≤ 1000 ∧ ti σ H1 fun i H2 => ∃ ns k, intsOf vs = some ns ∧ i = .int k ∧ 0 ≤ k ∧ k < (ns.length : Int) ∧ (ns.length : Int) < 1000 ∧ Q (.int (menu ns k)) H2
theorem menu_all {P : Int → Prop} {ns : List Int} {k : Int} (h : ∀ x ∈ ns, P x) (h0 : 0 ≤ k) (h1 : k < (ns.length : Int)) : P (menu ns k) := by
  have hl : k.toNat < ns.length := by omega
  unfold menu
  rw [List.getD_eq_getElem?_getD, List.getElem?_eq_getElem hl, Option.getD_some]
  exact h _ (List.getElem_mem hl)
theorem le_line {n : Nat} (h : n ≤ 1000) : n ≤ sizeLine := Nat.le_trans h (by decide)
theorem pe_menu {es : List Expr} {idx : Expr} {t : TA} {ti : TE} {p pos : Pos} (h : PA X es t) (hb : PE X idx ti) (hs : PlainIx idx) : PE X (.Subscript (.List es p) idx pos) (tMenu t ti) := by
  intro pins s σ H Q I hq
  refine Subscript_ ?_
  refine wpAny_List_spliced (thn (h p pins s σ H _ I hq) fun us s1 ⟨xs, H1, I1, r, e, q⟩ => ⟨?_, ?_⟩)
  · rw [← r.length]; exact le_line e
  have hf : H1 s1.heap.objs.size = none := I1.hok.fresh (Nat.le_refl _)
  have I2 : Inv X pins σ H1 { s1 with heap := s1.heap.push { cls := .type "list", data := .seq us.toArray }, toks := s1.toks } := I1.kept (t' := s1.toks) fun b u e => Heap.get?_push_of_some _ e
  have hp := I1.fpOk (H' := H1) (Nat.le_refl _) hf
  have I3 : Inv X (pins ++ [(s1.heap.objs.size, ({ cls := .type "list", data := .seq us.toArray } : Obj))]) σ H1 { s1 with heap := s1.heap.push { cls := .type "list", data := .seq us.toArray }, toks := s1.toks } :=
    I2.pins_of fun q hq => (List.mem_append.mp hq).elim (fun z => I2.pin q (List.mem_append_right _ z)) fun z => by
      have e : q = (s1.heap.objs.size, ({ cls := .type "list", data := .seq us.toArray } : Obj)) := by simpa using z
      subst e
      exact ⟨Heap.get?_push_size _ rfl, hf, hp.2.1, hp.2.2.1, fun v => by intro z; cases z⟩
  refine thn (hb _ _ σ H1 _ I3 q) fun u s4 ⟨y, H4, I4, r4, q4⟩ => ?_
  obtain ⟨ns, k, e1, rfl, h0, h1, h2, qq⟩ := q4
  obtain ⟨tk, rfl⟩ := r4
  have e2 := intsOf_eq e1
  subst e2
  have hl : k.toNat < ns.length := by omega
  have hx : (ns.map V.int)[k.toNat]? = some (.int (menu ns k)) := by
    rw [List.getElem?_map, List.getElem?_eq_getElem hl]
    unfold menu
    rw [List.getD_eq_getElem?_getD, List.getElem?_eq_getElem hl]
    rfl
  obtain ⟨w, ew, rw'⟩ := r.get hx
  have hpin := (I4.pin (s1.heap.objs.size, { cls := .type "list", data := .seq us.toArray }) (List.mem_append_right _ (List.mem_append_right _ List.mem_cons_self))).1
  exact item_listR (items := us.toArray) ⟨_, hpin, rfl, 0, rfl⟩ h0 (by omega) (by simpa using ew) ⟨.int (menu ns k), H4, I4.unpinned, rw', qq⟩ (hs _ _)
def CPowS (i j : Int) : Prop := 0 ≤ j ∧ j ≤ 1000000 ∧ -(2 ^ 64) < i ∧ i < 2 ^ 64
theorem op_powS : OpR X (binaryOp .Pow) (rI CPowS fun i j => .int (i ^ j.toNat)) := opI fun i j _ _ _ _ _ hc q => pow_int_small hc.1 hc.2.1 (by have := hc.2.2; omega) q
def tTupS (t : TA) : TE := fun σ H Q => t σ H fun xs H1 => xs.length ≤ 1000 ∧ ∀ p, H1 p = none → Q (.ref p) (upd H1 p (.tup xs))
def tLstS (t : TA) : TE := fun σ H Q => t σ H fun xs H1 => xs.length ≤ 1000 ∧ ∀ p, H1 p = none → Q (.ref p) (upd H1 p (.lst xs))
theorem pe_tupS {es : List Expr} {t : TA} {x1} {pos : Pos} (h : PA X es t) : PE X (.Tuple es x1 pos) (tTupS t) := by
  intro pins s σ H Q I hq
  refine wpAny_Tuple_spliced (thn (h pos pins s σ H _ I hq) fun us s1 ⟨xs, H1, I1, r, z, q⟩ => ⟨by rw [← r.length]; exact le_line z, ?_⟩)
  have hf : H1 s1.heap.objs.size = none := I1.hok.fresh (Nat.le_refl _)
  refine ⟨.ref s1.heap.objs.size, upd H1 s1.heap.objs.size (.tup xs), I1.laid (t' := s1.toks) (fun b u e => Heap.get?_push_of_some _ e) (Nat.le_refl _) ?_, rfl, q _ hf⟩
  exact ⟨le_line z, us, r, ⟨_, Heap.get?_push_size _ rfl, rfl, _, rfl⟩⟩
theorem pe_lstS {es : List Expr} {t : TA} {pos : Pos} (h : PA X es t) : PE X (.List es pos) (tLstS t) := by
  intro pins s σ H Q I hq
  refine wpAny_List_spliced (thn (h pos pins s σ H _ I hq) fun us s1 ⟨xs, H1, I1, r, z, q⟩ => ⟨by rw [← r.length]; exact le_line z, ?_⟩)
  have hf : H1 s1.heap.objs.size = none := I1.hok.fresh (Nat.le_refl _)
  refine ⟨.ref s1.heap.objs.size, upd H1 s1.heap.objs.size (.lst xs), I1.laid (t' := s1.toks) (fun b u e => Heap.get?_push_of_some _ e) (Nat.le_refl _) ?_, rfl, q _ hf⟩
  exact ⟨le_line z, us, 0, r, Heap.get?_push_size _ rfl⟩
end
theorem seq_cut {t u : TS} {D : Ends} {σ : St} {H : Hp} (M : St → Hp → Prop) (h1 : ∀ N : St → Hp → Prop, (∀ σ' H', M σ' H' → N σ' H') → t { D with nx := N } σ H) (h2 : ∀ σ' H', M σ' H' → u D σ' H') : tSeq t u D σ H := h1 (u D) h2
end L2
namespace L2
theorem seq_cut2 {t t2 u : TS} {D : Ends} {σ : St} {H : Hp} (M : St → Hp → Prop) (h1 : ∀ N : St → Hp → Prop, (∀ σ' H', M σ' H' → N σ' H') → tSeq t t2 { D with nx := N } σ H) (h2 : ∀ σ' H', M σ' H' → u D σ' H') : tSeq t (tSeq t2 u) D σ H := h1 (u D) h2
theorem seq_cut3 {t t2 t3 u : TS} {D : Ends} {σ : St} {H : Hp} (M : St → Hp → Prop) (h1 : ∀ N : St → Hp → Prop, (∀ σ' H', M σ' H' → N σ' H') → tSeq t (tSeq t2 t3) { D with nx := N } σ H) (h2 : ∀ σ' H', M σ' H' → u D σ' H') : tSeq t (tSeq t2 (tSeq t3 u)) D σ H := h1 (u D) h2
end L2
set_option maxRecDepth 100000
namespace L2
open PySem PySem.Spec PyProof.Rows
section
variable {X : Cx}
theorem sl_listK (K : PySem.W.Frag) (hK : X.K = K := by rfl) : SlR X (rSlL K) := by subst hK; exact sl_list
theorem ix_listK (K : PySem.W.Frag) (hK : X.K = K := by rfl) : IxR X (rIxL K) := by subst hK; exact ix_list
theorem ix_tupK (K : PySem.W.Frag) (hK : X.K = K := by rfl) : IxR X (rIxT K) := by subst hK; exact ix_tup
theorem call_sumK (K : PySem.W.Frag) (hc : X.calm = true) (hK : X.K = K := by rfl) : CallR X (.builtin "sum") (fun xs H Q => ∃ (p : Addr) (ns : List Int), xs = [.ref p] ∧ SqL K H p (ns.map V.int) ∧ Q (.int ns.sum) H) := by subst hK; exact call_sum hc
theorem call_lenK (K : PySem.W.Frag) (hK : X.K = K := by rfl) : CallR X (.builtin "len") (fun xs H Q => ∃ p ys, xs = [.ref p] ∧ (SqL K H p ys ∨ SqT K H p ys) ∧ Q (.int ys.length) H) := by subst hK; exact call_len_seq
theorem pi_listK {tg l : Expr} {tl : TE} (K : PySem.W.Frag) (hl : PE X l tl) (hK : X.K = K := by rfl) : PI X tg l (iList K tl) := by subst hK; exact pi_list hl
theorem pi_tupK {tg l : Expr} {tl : TE} (K : PySem.W.Frag) (hl : PE X l tl) (hK : X.K = K := by rfl) : PI X tg l (iTup K tl) := by subst hK; exact pi_tup hl
theorem pg_tupK {es : List Expr} {k : Nat} {t : TGs} {n : Nat} {pos : Pos} (K : PySem.W.Frag) (hc : X.calm = true) (h : PGs X es t) (hn : (assignEach es X.env).length = n := by rfl) (hst : (assignEach es X.env).findIdx? (·.1) = none := by rfl) (hK : X.K = K := by rfl) : PG X (.Tuple es k pos) (gTup K n t) := by subst hK; exact pg_tup hc h hn hst
theorem pe_fldK {e : Expr} {ta : TE} {f : Str} {pos : Pos} (K : PySem.W.Frag) (he : PE X e ta) (hb : attributeBase e f X.env (eval e X.env) = eval e X.env := by rfl) (hK : X.K = K := by rfl) : PE X (.Attribute e f pos) (tFld K ta f) := by subst hK; exact pe_fld he hb
end
def TSame (H H' : Hp) : Prop := ∀ b xs, H b = some (.tup xs) → H' b = some (.tup xs)
theorem Same.tup {H H' : Hp} (h : Same H H') : TSame H H' := fun b xs e => h b _ e
theorem TSame.trans {H H1 H2 : Hp} (a : TSame H H1) (b : TSame H1 H2) : TSame H H2 := fun c o h => b c o (a c o h)
theorem Same.upd {H H' : Hp} {p : Addr} {o : HO} (s : Same H H') (h : H p = none) : Same H (upd H' p o) := fun b u e => by
  rw [upd_ne (ne_of_none e h)]; exact s b u e
theorem Same.new {H : Hp} {p : Addr} {o : HO} (h : H p = none) : Same H (L2.upd H p o) := (Same.refl H).upd h
theorem Same.none {H H' : Hp} (s : Same H H') {p : Addr} (h : H' p = none) : H p = none := s.free h
theorem comp_rel {K : PySem.W.Frag} {a D : Addr} {xs : List V} {g : TG} {te : TE} {σ0 : St} {H1 : Hp} {Q : Hp → Prop} (R : V → V → Hp → Prop) (ok : St → Prop) (mono : ∀ H H' x v, TSame H H' → R x v H → R x v H')
    (sq : SqL K H1 a xs) (hD : H1 D = none) (hz : xs.length ≤ 1000) (h0 : ok σ0)
    (hs : ∀ x σ' H (N : St → V → Hp → Prop), x ∈ xs → ok σ' → Same H1 H → (∀ σ3 v H4, R x v H4 → Same H H4 → ok σ3 → N σ3 v H4) → g x σ' H fun σ3 H3 => te σ3 H3 fun v H4 => N σ3 v H4)
    (hd : ∀ ys H', Same H1 H' → H' D = some (.lst ys) → Paired (fun x v => R x v H') xs ys → Q H') :
    ∃ W : Nat → Nat → St → Hp → Prop, (∃ m, W 0 m σ0 (upd H1 D (.lst []))) ∧
      ∀ i m σ' H', W i m σ' H' → ((Itl K a).stop i H' ∧ Q H') ∨ ((Itl K a).go i H' ∧ ∀ x H2, (Itl K a).yld i H' x H2 → g x σ' H2 fun σ3 H3 => te σ3 H3 fun v H4 => ∃ xs, H4 D = some (.lst xs) ∧ xs.length < sizeLine ∧ ∃ m', m' < m ∧ W (i + 1) m' σ3 (upd H4 D (.lst (xs ++ [v])))) := by
  refine ⟨fun i m σ' H' => m = xs.length - i ∧ i ≤ xs.length ∧ ok σ' ∧ Same H1 H' ∧ ∃ ys, H' D = some (.lst ys) ∧ Paired (fun x v => R x v H') (xs.take i) ys, ⟨xs.length, by simp, Nat.zero_le _, h0, Same.new hD, [], upd_same, by rw [List.take_zero]; exact .nil⟩, ?_⟩
  rintro i m σ' H' ⟨rfl, hi, hok, hsm, ys, hy, hp⟩
  have sq' := hsm.seq sq
  have hyl : ys.length = i := by rw [← Paired.length hp, List.length_take, Nat.min_eq_left hi]
  by_cases hlt : i < xs.length
  · refine .inr ⟨⟨xs, xs[i], sq', by simp [hlt]⟩, fun x H2 y => ?_⟩
    obtain ⟨e, y⟩ := y
    subst e
    have hx := y xs sq'
    refine hs x σ' _ (fun σ3 v H4 => ∃ xs', H4 D = some (.lst xs') ∧ xs'.length < sizeLine ∧ ∃ m', m' < xs.length - i ∧ _) (List.mem_of_getElem? hx) hok hsm fun σ3 v H4 r s4 ok3 => ?_
    have tD : TSame H4 (upd H4 D (.lst (ys ++ [v]))) := fun b zs e => by
      rw [upd_ne (ne_of e (s4 _ _ hy) (by intro z; cases z))]; exact e
    refine ⟨ys, s4 _ _ hy, Nat.lt_of_lt_of_le (show ys.length < 1001 by omega) (by decide), xs.length - (i + 1), by omega, rfl, hlt, ok3, (hsm.trans s4).upd hD, ys ++ [v], upd_same, ?_⟩
    have e2 : xs.take (i + 1) = xs.take i ++ [x] := by
      rw [List.take_add_one, hx]; rfl
    rw [e2]
    exact Paired.snoc (Paired.mapP hp fun b w q => mono _ _ _ _ (s4.tup.trans tD) q) (mono _ _ _ _ tD r)
  · have e : i = xs.length := by omega
    subst e
    rw [List.take_length] at hp
    exact .inl ⟨⟨xs, sq', Nat.le_refl _⟩, hd ys H' hsm hy hp⟩
theorem paired_map {α β : Type} {f : α → β} : ∀ {xs : List α} {ys : List β}, Paired (fun x y => y = f x) xs ys → ys = xs.map f
  | _, _, .nil => rfl
  | _, _, .cons h t => by rw [h, paired_map t]; rfl
theorem comp_mp {K : PySem.W.Frag} {a D : Addr} {xs : List V} {g : TG} {te : TE} {σ0 : St} {H1 : Hp} {Q : Hp → Prop} (f : V → V) (ok : St → Prop)
    (sq : SqL K H1 a xs) (hD : H1 D = none) (hz : xs.length ≤ 1000) (h0 : ok σ0)
    (hs : ∀ x σ' H (N : St → V → Hp → Prop), x ∈ xs → ok σ' → Same H1 H → (∀ σ3 H4, Same H H4 → ok σ3 → N σ3 (f x) H4) → g x σ' H fun σ3 H3 => te σ3 H3 fun v H4 => N σ3 v H4)
    (hd : ∀ H', Same H1 H' → H' D = some (.lst (xs.map f)) → Q H') :
    ∃ W : Nat → Nat → St → Hp → Prop, (∃ m, W 0 m σ0 (upd H1 D (.lst []))) ∧
      ∀ i m σ' H', W i m σ' H' → ((Itl K a).stop i H' ∧ Q H') ∨ ((Itl K a).go i H' ∧ ∀ x H2, (Itl K a).yld i H' x H2 → g x σ' H2 fun σ3 H3 => te σ3 H3 fun v H4 => ∃ xs, H4 D = some (.lst xs) ∧ xs.length < sizeLine ∧ ∃ m', m' < m ∧ W (i + 1) m' σ3 (upd H4 D (.lst (xs ++ [v])))) :=
  comp_rel (fun x v _ => v = f x) ok (fun _ _ _ _ _ h => h) sq hD hz h0 (fun x σ' H N hx ho sm q => hs x σ' H N hx ho sm fun σ3 H4 s4 o3 => q σ3 _ H4 rfl s4 o3) fun ys H' sm hy hp => hd H' sm (by rw [← paired_map hp]; exact hy)
theorem cut_take (xs : List V) (n : Nat) : cutV xs none (some (n : Int)) = xs.take n := by
  unfold cutV
  rw [HT.sIx_none, List.drop_zero, Nat.sub_zero]
  rw [HT.sIx_nat]
  by_cases h : n ≤ xs.length
  · rw [Nat.min_eq_left h]
  · rw [Nat.min_eq_right (by omega), List.take_length, List.take_of_length_le (by omega)]
end L2
set_option maxRecDepth 100000
namespace L2
open PySem PySem.Spec PyProof.Rows
end L2
set_option maxRecDepth 100000
namespace L2
open PySem PySem.Spec PyProof.Rows
end L2
namespace L2
open PySem PySem.Spec PyProof.Rows
theorem atI_0 {α : Type} (a : α) (l : List α) : atI (a :: l) 0 = some a := by exact atI_nat (j := 0) rfl
theorem atI_1 {α : Type} (a b : α) (l : List α) : atI (a :: b :: l) 1 = some b := by exact atI_nat (j := 1) rfl
theorem atI_2 {α : Type} (a b c : α) (l : List α) : atI (a :: b :: c :: l) 2 = some c := by exact atI_nat (j := 2) rfl
theorem atI_3 {α : Type} (a b c d : α) (l : List α) : atI (a :: b :: c :: d :: l) 3 = some d := by exact atI_nat (j := 3) rfl
end L2
set_option maxRecDepth 100000
namespace L2
open PySem PySem.Spec PyProof.Rows
section
variable {X : Cx}
end
end L2
set_option maxRecDepth 100000
namespace L2
open PySem PySem.Spec PyProof.Rows
def FlyAt (h : Heap) (ea T : Addr) (cls : Value) (dx : Option Addr) (fl : Value) : Prop :=
  ∃ oe vs oT ts a0, h.get? ea = some oe ∧ oe.cls = cls ∧ oe.dict = dx ∧ oe.data = .fields vs ∧ vs[0]? = some a0 ∧ vs[1]? = some (.ref T) ∧ T ≠ ea ∧ h.get? T = some oT ∧ oT.data = .fields ts ∧ ts[3]? = some fl
abbrev Fly (h : Heap) (ea T : Addr) (cls : Value) (dx : Option Addr) : Prop := FlyAt h ea T cls dx .none
def Made (h : Heap) (ea : Addr) (cls : Value) (dx : Option Addr) : Prop := ∃ oe vs a0, h.get? ea = some oe ∧ oe.cls = cls ∧ oe.dict = dx ∧ oe.data = .fields vs ∧ vs[0]? = some a0 ∧ vs[1]? = some .none
structure Moved (h h' : Heap) (fs ch : List Addr) : Prop where
  keep : ∀ b o, h.get? b = some o → b ∉ ch → b ∉ fs → h'.get? b = some o
  slot : ∀ b o, h.get? b = some o → b ∉ ch → b ∈ fs → ∃ sl, h'.get? b = some { o with slots := sl }
theorem Moved.one {h h' : Heap} {fs : List Addr} {T : Addr} (k : ∀ b, b ≠ T → h'.get? b = h.get? b) : Moved h h' fs [T] :=
  ⟨fun b o e n _ => by rw [k b (by simpa using n)]; exact e, fun b o e n _ => ⟨o.slots, by rw [k b (by simpa using n)]; exact e⟩⟩
theorem Moved.trans {h h1 h2 : Heap} {fs ch ch' : List Addr} (a : Moved h h1 fs ch) (b : Moved h1 h2 fs ch') : Moved h h2 fs (ch ++ ch') :=
  ⟨fun c o e n m => b.keep c o (a.keep c o e (fun z => n (List.mem_append_left _ z)) m) (fun z => n (List.mem_append_right _ z)) m, fun c o e n m => by
    obtain ⟨sl, e1⟩ := a.slot c o e (fun z => n (List.mem_append_left _ z)) m
    obtain ⟨sl', e2⟩ := b.slot c _ e1 (fun z => n (List.mem_append_right _ z)) m
    exact ⟨sl', e2⟩⟩
theorem Moved.less {h h' : Heap} {fs ch : List Addr} (a : Moved h h' fs ch) {ch' : List Addr} (k : ∀ b ∈ ch, b ∈ ch' ∨ h.get? b = none) : Moved h h' fs ch' :=
  have z : ∀ b o, h.get? b = some o → b ∉ ch' → b ∉ ch := fun b o e n m => (k b m).elim n fun q => by rw [e] at q; cases q
  ⟨fun b o e n m => a.keep b o e (z b o e n) m, fun b o e n m => a.slot b o e (z b o e n) m⟩
theorem dict_map (o : Obj) (g) : (o.mapFields g).dict = o.dict := by
  cases o with
  | mk c d dt sl => cases dt <;> rfl
section
variable {M : Model} {A : Around} {E : Value → Shared → Prop} {s : Shared} {env : Env} {outer : List Env} {base : Heap} {L ea T : Addr} {cls fl : Value} {dx : Option Addr} {Q : Unit → Shared → Prop}
theorem entry_on {head : Value} {had : Bool} {oe : Obj} {vs : Array Value} {a0 : Value} (hfr : A.frames = some (env :: outer)) (hl : s.heap.FunFrames base (env :: outer)) (hf : env.frame = some L)
    (e1 : s.heap.get? ea = some oe) (e2 : oe.cls = cls) (e3 : oe.dict = dx) (e4 : oe.data = .fields vs) (e5 : vs[0]? = some a0) (e6 : 1 < vs.size)
    (h : ∀ h' T', FlyAt h' ea T' cls dx (rawInt L) → s.heap.get? T' = none → Moved s.heap h' (frs (env :: outer)) [ea] → Q () { s with heap := h' }) :
    wpAny M A (do let a ← frameOf env; let pl ← entryPlaceOf L had; let b ← EntryCells.newEntry head a .none (rawInt L) .none pl; setField (.ref ea) 1 b) Q E s := by
  have nfr : ea ∉ frs (env :: outer) := fun m => by
    obtain ⟨_, o', q1, q2⟩ := hl.mem m
    rw [e1] at q1
    cases q1
    exact q2 vs e4
  refine wpAny_bind (wpAny_frameOf_fun hfr hl hf fun g1 so => wpAny_bind (wpAny_entryPlaceOf fun pl isp => ?_))
  unfold EntryCells.newEntry newFields
  refine wpAny_bind (wpAny_newObj_type ?_ (isp.sizeOk5 _ _ _ _ _))
  have at1 : g1.get? ea = some oe := (so.2.1 ea nfr).trans e1
  have neT : g1.objs.size ≠ ea := Nat.ne_of_gt (Heap.lt_size at1)
  have len5 : ∀ (l : List Value), (([head, .ref L, .none, rawInt L, .none] ++ l).toArray)[3]? = some (rawInt L) := fun l => by simp
  generalize ho : ({ cls := .type "traceback", dict := none, data := .fields ([head, .ref L, .none, rawInt L, .none] ++ (if pl.isEmpty then List.replicate 6 Value.none else pl)).toArray } : Obj) = ot
  have hod : ot.data = .fields ([head, .ref L, .none, rawInt L, .none] ++ (if pl.isEmpty then List.replicate 6 Value.none else pl)).toArray := by rw [← ho]
  have hnf : ot.isFreed = false := Obj.isFreed_of_fields hod
  have at2 : (g1.push ot).get? ea = some oe := Heap.get?_push_of_some _ at1
  refine wpAny_setField at2 e4 e6 (h _ g1.objs.size ?_ ?_ ?_)
  · have fd := Obj.data_mapFields e4 (·.setIfInBounds 1 (Value.ref g1.objs.size))
    refine ⟨_, _, ot, _, a0, Heap.get?_update_self _ at2 (Obj.isFreed_of_fields fd), by rw [Obj.cls_mapFields]; exact e2, by rw [dict_map]; exact e3, fd, by rw [Array.getElem?_setIfInBounds_ne (by decide)]; exact e5, by simp [e6], neT, ?_, hod, len5 _⟩
    rw [Heap.get?_update_other _ _ (Ne.symm neT)]
    exact Heap.get?_push_size g1 hnf
  · exact Heap.get?_none_of_le (by rw [so.1]; exact Nat.le_refl _)
  · refine ⟨fun b o q n1 n2 => ?_, fun b o q n1 n2 => ?_⟩
    · rw [Heap.get?_update_other _ _ (fun z => n1 (by simp [z]))]
      exact Heap.get?_push_of_some _ ((so.2.1 b n2).trans q)
    · obtain ⟨sl, q2⟩ := so.2.2 b o q
      refine ⟨sl, ?_⟩
      rw [Heap.get?_update_other _ _ (fun z => n1 (by simp [z]))]
      exact Heap.get?_push_of_some _ q2
theorem note_new (hfr : A.frames = some (env :: outer)) (hl : s.heap.FunFrames base (env :: outer)) (hf : env.frame = some L) (m : Made s.heap ea cls dx)
    (h : ∀ h' T', FlyAt h' ea T' cls dx (rawInt L) → s.heap.get? T' = none → Moved s.heap h' (frs (env :: outer)) [ea] → Q () { s with heap := h' }) : wpAny M A (noteFrame (.ref ea) env) Q E s := by
  obtain ⟨oe, vs, a0, e1, e2, e3, e4, e5, e6⟩ := m
  unfold noteFrame
  simp only [hf]
  refine wpAny_bind (wpAny_field e1 e4 e6 ?_)
  rw [if_neg (by decide)]
  exact entry_on hfr hl hf e1 e2 e3 e4 e5 (Array.getElem?_eq_some_iff.mp e6).1 h
theorem note_on (hfr : A.frames = some (env :: outer)) (hl : s.heap.FunFrames base (env :: outer)) (hf : env.frame = some L) (m : Fly s.heap ea T cls dx)
    (h : ∀ h' T', FlyAt h' ea T' cls dx (rawInt L) → s.heap.get? T' = none → Moved s.heap h' (frs (env :: outer)) [T, ea] → Q () { s with heap := h' }) : wpAny M A (noteFrame (.ref ea) env) Q E s := by
  obtain ⟨oe, vs, oT, ts, a0, e1, e2, e3, e4, e5, e6, e7, e8, e9, e10⟩ := m
  unfold noteFrame
  simp only [hf]
  refine wpAny_bind (wpAny_field e1 e4 e6 ?_)
  rw [if_pos (by simp)]
  refine wpAny_bind (wpAny_field e8 e9 e10 ?_)
  rw [if_neg (by simp [rawInt])]
  refine wpAny_bind (wpAny_setField e8 e9 (Array.getElem?_eq_some_iff.mp e10).1 ?_)
  have oth : ∀ b, b ≠ T → (s.heap.update T (Obj.mapFields (·.setIfInBounds 3 Value.none))).get? b = s.heap.get? b := fun b n => Heap.get?_update_other _ _ (Ne.symm n)
  have rec' : ∀ b o, s.heap.get? b = some o → (∀ vs, o.data ≠ .fields vs) → b ≠ T := fun b o q nf z => by
    rw [z, e8] at q
    cases q
    exact nf ts e9
  have mv := Moved.one (fs := frs (env :: outer)) oth
  refine entry_on (s := { s with heap := _ }) hfr (hl.of_keeps fun b o q nf => ⟨o, (oth b (rec' b o q nf)).trans q, rfl⟩) hf ((oth ea (Ne.symm e7)).trans e1) e2 e3 e4 e5 (Array.getElem?_eq_some_iff.mp e6).1 fun h' T' f1 f2 f3 => h h' T' f1 ?_ (mv.trans f3)
  cases q : s.heap.get? T' with
  | none => rfl
  | some o =>
    by_cases z : T' = T
    · rw [z, Heap.get?_update_self _ e8 (Obj.isFreed_of_fields (Obj.data_mapFields e9 _))] at f2; cases f2
    · rw [oth T' z, q] at f2; cases f2
theorem flight_off (m : FlyAt s.heap ea T cls dx fl) (h : ∀ h', Fly h' ea T cls dx → (∀ b, b ≠ T → h'.get? b = s.heap.get? b) → Q () { s with heap := h' }) : wpAny M A (setFlight (.ref ea) none) Q E s := by
  obtain ⟨oe, vs, oT, ts, a0, e1, e2, e3, e4, e5, e6, e7, e8, e9, e10⟩ := m
  have sz : 3 < ts.size := (Array.getElem?_eq_some_iff.mp e10).1
  unfold setFlight
  refine wpAny_bind (wpAny_field e1 e4 e6 ?_)
  rw [if_pos (by simp)]
  have oth : ∀ b, b ≠ T → (s.heap.update T (Obj.mapFields (·.setIfInBounds 3 Value.none))).get? b = s.heap.get? b := fun b n => Heap.get?_update_other _ _ (Ne.symm n)
  refine wpAny_setField e8 e9 sz (h _ ⟨oe, vs, _, _, a0, (oth ea (Ne.symm e7)).trans e1, e2, e3, e4, e5, e6, e7, Heap.get?_update_self _ e8 (Obj.isFreed_of_fields (Obj.data_mapFields e9 _)), Obj.data_mapFields e9 _, by simp [sz]⟩ oth)
theorem leave_first (hfr : A.frames = some (env :: outer)) (hl : s.heap.FunFrames base (env :: outer)) (hf : env.frame = some L) (m : Made s.heap ea cls dx)
    (h : ∀ h' T', Fly h' ea T' cls dx → s.heap.get? T' = none → Moved s.heap h' (frs (env :: outer)) [ea] → Q () { s with heap := h' }) : wpAny M A (leaving env (.ref ea)) Q E s := by
  unfold leaving
  refine wpAny_bind (note_new hfr hl hf m fun h1 T1 f1 f2 f3 => ?_)
  refine flight_off (s := { s with heap := h1 }) f1 fun h2 f4 f5 => h h2 T1 f4 f2 ?_
  exact (f3.trans (Moved.one f5)).less fun b hb => (List.mem_append.mp hb).imp id fun z => by rw [List.mem_singleton] at z; rw [z]; exact f2
theorem look_on (hfr : A.frames = some (env :: outer)) (hl : s.heap.FunFrames base (env :: outer)) (hf : env.frame = some L) (m : Fly s.heap ea T cls dx)
    (h : ∀ h' T', Fly h' ea T' cls dx → s.heap.get? T' = none → Moved s.heap h' (frs (env :: outer)) [ea, T] → Q () { s with heap := h' }) :
    wpAny M A (noteFrame (.ref ea) env) (fun _ s2 => wpAny M A (setFlight (.ref ea) none) Q E s2) E s := by
  refine note_on hfr hl hf m fun h1 T1 f1 f2 f3 => ?_
  refine flight_off (s := { s with heap := h1 }) f1 fun h2 f4 f5 => h h2 T1 f4 f2 ?_
  refine (f3.trans (Moved.one f5)).less fun b hb => ?_
  rcases List.mem_append.mp hb with z | z
  · exact .inl (by simp at z ⊢; exact z.symm)
  · rw [List.mem_singleton] at z; rw [z]; exact .inr f2
theorem leave_on (hfr : A.frames = some (env :: outer)) (hl : s.heap.FunFrames base (env :: outer)) (hf : env.frame = some L) (m : Fly s.heap ea T cls dx)
    (h : ∀ h' T', Fly h' ea T' cls dx → s.heap.get? T' = none → Moved s.heap h' (frs (env :: outer)) [ea, T] → Q () { s with heap := h' }) : wpAny M A (leaving env (.ref ea)) Q E s := by
  unfold leaving
  exact wpAny_bind (look_on hfr hl hf m h)
end
theorem ObjOk.there {P : Program} {w : World} {H : Hp} {h : Heap} {a : Addr} {o : HO} (x : ObjOk P w H h a o) : ∃ u, h.get? a = some u := by
  cases o with
  | lst xs => obtain ⟨_, _, _, _, e⟩ := x; exact ⟨_, e⟩
  | tup xs => obtain ⟨_, _, _, o, e, _⟩ := x; exact ⟨_, e⟩
  | dK kvs => obtain ⟨_, _, _, _, o, _, _, e, _⟩ := x; exact ⟨_, e⟩
  | dT kvs => obtain ⟨_, _, _, _, o, _, _, e, _⟩ := x; exact ⟨_, e⟩
  | set S n => obtain ⟨o, _, _, _, e, _⟩ := x; exact ⟨_, e⟩
  | ins C dx fs => obtain ⟨_, _, _, e, _⟩ := x; exact ⟨_, e⟩
  | own y => exact x
  | xd fs => obtain ⟨_, ⟨_, _, _, e, _⟩, _⟩ := x; exact ⟨_, e⟩
  | rng lo hi => obtain ⟨_, _, _, e⟩ := x; exact ⟨_, e⟩
  | frz ob u => obtain ⟨e, _⟩ := x; exact ⟨_, e⟩
  | tbl ps => exact ⟨_, x⟩
  | met f y => exact ⟨_, x⟩
  | ext φ => exact x.2.1
theorem HOk.none_of {P : Program} {w : World} {H : Hp} {h : Heap} (k : HOk P w H h) {a : Addr} (e : h.get? a = none) : H a = none := by
  cases q : H a with
  | none => rfl
  | some o => obtain ⟨u, e2⟩ := (k a o q).there; rw [e] at e2; cases e2
section
variable {X : Cx} {pins : List (Addr × Obj)} {σ : St} {H : Hp} {s : Shared} {h' : Heap}
theorem Inv.moved {ch : List Addr} (I : Inv X pins σ H s) (m : Moved s.heap h' (frs X.stack) ch) (hn : ∀ b ∈ ch, H b = none) (h0 : ∀ b ∈ ch, X.s₀.heap.get? b = none) (hL : ∀ b ∈ ch, b ≠ X.env.locals)
    (hc : ∀ b ∈ ch, ∀ x c, X.env.cells.lookup x = some c → c ≠ b) (hp : ∀ b ∈ ch, ∀ p ∈ X.pn ++ pins, p.1 ≠ b) : Inv X pins σ H { s with heap := h' } := by
  have any : ∀ b o, b ∉ ch → s.heap.get? b = some o → ∃ sl, h'.get? b = some { o with slots := sl } := fun b o hb e => by
    by_cases m1 : b ∈ frs X.stack
    · exact m.slot b o e hb m1
    · exact ⟨o.slots, m.keep b o e hb m1⟩
  have neC : ∀ b o, X.s₀.heap.get? b = some o → b ∉ ch := fun b o e hb => by rw [h0 b hb] at e; cases e
  have neL : ∀ b o, X.s₀.heap.get? b = some o → b ≠ X.env.locals := fun b o e => Nat.ne_of_lt (Nat.lt_of_lt_of_le (Heap.lt_size e) I.ok.above)
  have nst : ∀ b, b ≠ X.env.locals → b ∉ X.fs → b ∉ frs X.stack := fun b h1 h2 h3 => (List.mem_cons.mp (I.stkSub b h3)).elim h1 h2
  have cellK : ∀ x c, X.env.cells.lookup x = some c → ∀ v, s.heap.IsCell c v → h'.IsCell c v := fun x c e v ⟨o, ho, hd⟩ => by
    obtain ⟨sl, q⟩ := any c o (fun z => hc c z x c e rfl) ho
    exact ⟨_, q, hd⟩
  have trk : ∀ b u, H b = some u → b ∉ ch ∧ b ∉ frs X.stack := fun b u e => ⟨fun z => (by rw [hn b z] at e; cases e), fun z => (by rw [I.stkFree b z] at e; cases e)⟩
  refine ⟨I.ok, I.os, I.bare, ⟨fun b o e n hb hx => ?_, fun b o e n hb hx => ?_, I.base.free, fun b o e hx => ?_, I.base.tups, I.base.frzs, I.base.tbls⟩, ?_, fun x c e => ?_, I.free, I.freeC, fun p hq => ?_, fun b u e => ?_, I.len⟩
  · exact m.keep b o (I.base.keep b o e n hb hx) (neC b o e) (nst b (neL b o e) hb)
  · obtain ⟨sl, e1⟩ := I.base.slot b o e n hb hx
    obtain ⟨sl', e2⟩ := any b _ (neC b o e) e1
    exact ⟨sl', e2⟩
  · obtain ⟨o', e1⟩ := I.base.there b o e hx
    obtain ⟨sl, e2⟩ := any b o' (neC b o e) e1
    exact ⟨_, e2⟩
  · obtain ⟨mm, ⟨o, es, ep, ho, r⟩, hl⟩ := I.loc
    obtain ⟨sl, e2⟩ := any _ o (fun z => hL _ z rfl) ho
    refine ⟨mm, ⟨_, es, ep, e2, r⟩, fun i x v e1 e2 e3 => ?_⟩
    obtain ⟨u, rr, l⟩ := hl i x v e1 e2 e3
    refine ⟨u, rr, ?_⟩
    rcases l with l | ⟨k, c, e, z⟩
    · exact .inl l
    · exact .inr ⟨k, c, e, cellK x c e _ z⟩
  · obtain ⟨v, z⟩ := I.cell x c e
    exact ⟨v, cellK x c e v z⟩
  · obtain ⟨e, n, ne, nf, d⟩ := I.pin p hq
    exact ⟨m.keep p.1 p.2 e (fun z => hp _ z p hq rfl) (nst _ ne nf), n, ne, nf, d⟩
  · refine (I.hok b u e).stay (fun c v hcv q => ?_) (fun _ q => q) fun _ _ q => q
    have z : c ∉ ch ∧ c ∉ frs X.stack := by
      rcases hcv with rfl | hcv
      · exact trk c u e
      · exact trk c _ hcv
    exact m.keep c v q z.1 z.2
structure Apart (X : Cx) (pins : List (Addr × Obj)) (H : Hp) (b : Addr) : Prop where
  trk : H b = none
  old : X.s₀.heap.get? b = none
  loc : b ≠ X.env.locals
  cell : ∀ x c, X.env.cells.lookup x = some c → c ≠ b
  pin : ∀ p ∈ X.pn ++ pins, p.1 ≠ b
theorem Inv.moved' {ch : List Addr} (I : Inv X pins σ H s) (m : Moved s.heap h' (frs X.stack) ch) (ha : ∀ b ∈ ch, Apart X pins H b) : Inv X pins σ H { s with heap := h' } :=
  I.moved m (fun b hb => (ha b hb).trk) (fun b hb => (ha b hb).old) (fun b hb => (ha b hb).loc) (fun b hb => (ha b hb).cell) fun b hb => (ha b hb).pin
theorem Inv.apart (I : Inv X pins σ H s) (hx : X.ex = []) {b : Addr} (e : s.heap.get? b = none) : Apart X pins H b := by
  refine ⟨I.hok.none_of e, ?_, ?_, fun x c hc z => ?_, fun p hp z => ?_⟩
  · cases q : X.s₀.heap.get? b with
    | none => rfl
    | some o =>
      obtain ⟨o', e1⟩ := I.base.there b o q (by rw [hx]; simp)
      rw [e] at e1; cases e1
  · rintro rfl
    obtain ⟨m, ⟨o, _, _, ho, _⟩, _⟩ := I.loc
    rw [e] at ho; cases ho
  · obtain ⟨v, o, ho, _⟩ := I.cell x c hc
    rw [z, e] at ho; cases ho
  · have := (I.pin p hp).1
    rw [z, e] at this; cases this
end
def CXE (P : Program) (w : World) : CXT := fun outer H s E e s' => ∃ (ea T : Addr) (cls : Value) (dx : Option Addr) (H' : Hp), e = .ref ea ∧ s'.os = s.os ∧ AllBare s'.gens ∧ Un (frs outer) [] H H' s.heap s'.heap ∧ HOk P w H' s'.heap ∧
  H' ea = none ∧ H' T = none ∧ s.heap.get? ea = none ∧ s.heap.get? T = none ∧ Fly s'.heap ea T cls dx ∧ E cls dx H'
theorem passE0 {P : Program} {w : World} {X : Cx} : Passes (CXE P w) X E0 := fun _ _ _ _ _ _ _ ⟨_, _, _, _, _, _, _, _, _, _, _, _, _, _, _, f⟩ => f.elim
section
variable {P : Program} {w : World} {K : PySem.W.Frag} {mg : Str → Option Value} {base : Heap} {N : List Str} {qual : Str} {scope : Scope} {f : Addr} {cd : Value} {A : Around} {outer : List Env} {s₀ : Shared} {H₀ : Hp} {E : XK}
abbrev cxE (P : Program) (w : World) (K : PySem.W.Frag) (mg : Str → Option Value) (base : Heap) (N : List Str) (qual : Str) (scope : Scope) (f : Addr) (cd : Value) (A : Around) (outer : List Env) (s₀ : Shared) (H₀ : Hp) (E : XK) : Cx :=
  cxOf (CXE P w) P w K mg base N qual scope f cd A outer s₀ H₀ E
theorem throw_ok {pins : List (Addr × Obj)} {σ : St} {H : Hp} {s : Shared} {ea : Addr} {cls : Value} {dx : Option Addr} (I : Inv (cxE P w K mg base N qual scope f cd A outer s₀ H₀ E) pins σ H s) (m : Made s.heap ea cls dx) (a : Apart (cxE P w K mg base N qual scope f cd A outer s₀ H₀ E) pins H ea) (e : E cls dx H) :
    (cxE P w K mg base N qual scope f cd A outer s₀ H₀ E).xe (.ref ea) s := by
  refine leave_first (base := base) (outer := outer) I.ok.frames I.stack rfl m fun h' T' fl nT mv => ?_
  have I' := I.moved' mv fun b hb => by
    rcases List.mem_cons.mp hb with rfl | hb
    · exact a
    · cases hb
  have aT := I.apart rfl nT
  exact ⟨ea, T', cls, dx, H, rfl, I'.os, I'.bare, I'.base, I'.hok, a.trk, aT.trk, a.old, aT.old, fl, e⟩
theorem passE : Passes (CXE P w) (cxE P w K mg base N qual scope f cd A outer s₀ H₀ E) E := by
  intro pins σ H s e s' I h
  obtain ⟨ea, T, cls, dx, H', rfl, h1, h2, h3, h4, h5, h6, h7, h8, h9, h10⟩ := h
  have a1 := I.apart rfl h7
  have a2 := I.apart rfl h8
  have I' := I.call' h1 h3 h4 h2 (by intro b hb; cases hb)
  refine leave_on (base := base) (outer := outer) I'.ok.frames I'.stack rfl h9 fun h' T' fl nT mv => ?_
  have I2 := I'.moved' mv fun b hb => by
    rcases List.mem_cons.mp hb with rfl | hb
    · exact ⟨h5, a1.old, a1.loc, a1.cell, a1.pin⟩
    · rcases List.mem_cons.mp hb with rfl | hb
      · exact ⟨h6, a2.old, a2.loc, a2.cell, a2.pin⟩
      · cases hb
  have aT := I'.apart rfl nT
  exact ⟨ea, T', cls, dx, H', rfl, I2.os, I2.bare, I2.base, I2.hok, h5, aT.trk, a1.old, aT.old, fl, h10⟩
end
end L2
set_option maxRecDepth 100000
namespace L2
open PySem PySem.Spec PyProof.Rows
abbrev veMro : List Value := [.type "ValueError", .type "Exception", .type "BaseException", .type "object"]
abbrev ExcC (K : PySem.W.Frag) (C : Addr) : Prop := PySem.W.excIn K C veMro "ValueError.__new__" = true
theorem exc_of {K : PySem.W.Frag} {g : Heap} {C : Addr} (kin : K.In g) (isx : ExcC K C) : ∃ nm qn N bs bm hdct sn sub ab col dd k0 k1 k2 k3 k5 mN, g.get? C = some (excClassObj nm qn C N bs bm hdct sn sub ab col dd k0 k1 k2 k3 k5 "ValueError.__new__") ∧
    g.Ns N mN ∧ mN "__init__" = none ∧ OwnTail g veMro bm := by
  unfold ExcC PySem.W.excIn at isx
  split at isx
  next dct cdat slo look =>
    split at isx
    next C2 tail s0 s1 s2 s3 made s5 mro slots =>
      simp only [Bool.and_eq_true, beq_iff_eq, Bool.not_eq_true'] at isx
      obtain ⟨⟨⟨⟨⟨e1, e2⟩, e3⟩, e4⟩, e5⟩, e6⟩ := isx
      cases cdat with
      | mk z1 z2 z3 z4 z5 z6 z7 z8 z9 z10 z11 =>
        dsimp only at mro e3 e5 e6
        subst e1 e2 mro e3
        cases slo with
        | mk lst =>
          dsimp only at slots
          subst slots
          exact ⟨_, _, _, _, _, _, _, _, _, _, _, _, _, _, _, _, _, kin _ _ look, .of_isNs (PySem.W.isNs_of_in kin e5), PySem.W.nsMap_none_of_in kin e5 e6, PySem.W.tail_of_in kin e4⟩
    next => cases isx
  next => cases isx
def tRaise (E : XK) (C : Addr) (t : TA) : TS := fun _ σ H => t σ H fun vs H1 => vs.length ≤ 1000 ∧ E (.ref C) none H1
section
variable {P : Program} {w : World} {K : PySem.W.Frag} {mg : Str → Option Value} {base : Heap} {N : List Str} {qual : Str} {scope : Scope} {f : Addr} {cd : Value} {A : Around} {outer : List Env} {s₀ : Shared} {H₀ : Hp} {E : XK}
theorem ps_raise {x : Str} {e : Expr} {es : List Expr} {t : TA} {C : Addr} {np cpos pos : Pos} (isx : ExcC K C) (hg : Gl (cxE P w K mg base N qual scope f cd A outer s₀ H₀ E) x) (hm : mg x = some (.ref C)) (ha : PA (cxE P w K mg base N qual scope f cd A outer s₀ H₀ E) (e :: es) t)
    (hdb : (x == ("__debug__" : Str)) = false := by decide) (he : starEach (e :: es) (cxE P w K mg base N qual scope f cd A outer s₀ H₀ E).env = (false, eval e (cxE P w K mg base N qual scope f cd A outer s₀ H₀ E).env) :: starEach es (cxE P w K mg base N qual scope f cd A outer s₀ H₀ E).env := by rfl)
    (hpl : (backTo cpos (starEach (e :: es) (cxE P w K mg base N qual scope f cd A outer s₀ H₀ E).env)).any (·.1) = false := by rfl) :
    PS (cxE P w K mg base N qual scope f cd A outer s₀ H₀ E) (.Raise (some (.Call (.Name x np) (e :: es) [] cpos)) none pos) (tRaise E C t) := by
  intro pins s σ H D I h
  obtain ⟨nm, qn, NN, bs, bm, hdct, sn, sub, ab, col, dd, k0, k1, k2, k3, k5, mN, c1, c2, c3, c4⟩ := exc_of I.mod.kin isx
  refine wpAny_Raise_call_subT (C := C) (nm := nm) (q := qn) (N := NN) (bs := bs) (bm := bm) (hdct := hdct) (sn := sn) (sub := sub) (ab := ab) (col := col) (dd := dd) (k0 := k0) (k1 := k1) (k2 := k2) (k3 := k3) (k5 := k5) PySem.F.excBase_ValueError (c4.hasType PySem.F.excBase_ValueError.hasBase) (I.ok.hd rfl) hpl c3 ?_
  refine ld_glob I hg hm ⟨rfl, ?_⟩ hdb
  have q := ha cpos pins s σ H _ I h
  rw [he] at q ⊢
  refine PySem.Calls.evalArgs_plain (thn q fun us s1 ⟨vs, H1, I1, r, q1⟩ => ?_)
  refine ⟨rfl, by rw [← r.length]; exact le_line q1.1, I1.bk _ _ c1, c2.keeps I1.bk, c4.keeps I1.bk, fun h' ea md => ?_⟩
  have I2 : Inv _ pins σ H1 { s1 with heap := h' } := I1.kept (t' := s1.toks) md.keeps
  obtain ⟨tp, e1, _, _⟩ := md.there
  refine throw_ok (cls := .ref C) (dx := none) I2 ⟨_, _, _, e1, rfl, rfl, rfl, rfl, rfl⟩ ?_ q1.2
  have a := I1.apart rfl md.new
  exact ⟨a.trk, a.old, a.loc, a.cell, a.pin⟩
theorem Fun.okE {x : Str} {st : Stmt} {fd : FuncData} {N ps : List Str} {k : Nat} {sp : Sp} (F : Fun K x qual st f fd) (S : FnScope N ps (defScope st)) (len : ∀ vs H Q E, sp vs H Q E → vs.length = ps.length)
    (hbody : ∀ (cdv : Value) (A : Around) (outer : List Env) (s : Shared) (H : Hp) (vs : List V) (Q : VK) (E : XK), Room k (A.deeper (envOfC qual (defScope st) s.heap.objs.size f cdv)) → sp vs H Q E →
      ∃ t, PSs (cxE P w K mg base N qual (defScope st) f cdv A outer s H E) (defBody st) t ∧ t { nx := fun _ H' => Q .non H', rt := Q } (start N vs) H) : FnOk P w K mg base (CXE P w) (k + 1) f fd ps sp := by
  obtain ⟨oc, od, kV, doc, pm, an, cdv, ct, osl, rfl, lk, hcd⟩ := F.ex
  exact fn_of lk hcd S len fun A outer s H vs Q E hr hsp => hbody cdv A outer s H vs Q E hr hsp
theorem Fun.okN {x : Str} {st : Stmt} {fd : FuncData} {N ps : List Str} {k : Nat} {sp : Sp} (F : Fun K x qual st f fd) (S : FnScope N ps (defScope st)) (len : ∀ vs H Q E, sp vs H Q E → vs.length = ps.length)
    (hbody : ∀ (cdv : Value) (A : Around) (outer : List Env) (s : Shared) (H : Hp) (vs : List V) (Q : VK) (E : XK), Room k (A.deeper (envOfC qual (defScope st) s.heap.objs.size f cdv)) → sp vs H Q E →
      ∃ t, PSs (cxE P w K mg base N qual (defScope st) f cdv A outer s H E).nox (defBody st) t ∧ t { nx := fun _ H' => Q .non H', rt := Q } (start N vs) H) : FnOk P w K mg base (CXE P w) (k + 1) f fd ps sp :=
  F.okE S len fun cdv A outer s H vs Q E hr hsp => let ⟨t, h, q⟩ := hbody cdv A outer s H vs Q E hr hsp; ⟨t, h.nox, q⟩
theorem FunD.okE {x : Str} {st : Stmt} {dV : Value} {fd : FuncData} {N ps : List Str} {k : Nat} {sp : Sp} (F : FunD K x qual st dV f fd) (S : FnScope N ps (defScope st)) (len : ∀ vs H Q E, sp vs H Q E → vs.length = ps.length)
    (hbody : ∀ (cdv : Value) (A : Around) (outer : List Env) (s : Shared) (H : Hp) (vs : List V) (Q : VK) (E : XK), Room k (A.deeper (envOfC qual (defScope st) s.heap.objs.size f cdv)) → sp vs H Q E →
      ∃ t, PSs (cxE P w K mg base N qual (defScope st) f cdv A outer s H E) (defBody st) t ∧ t { nx := fun _ H' => Q .non H', rt := Q } (start N vs) H) : FnOk P w K mg base (CXE P w) (k + 1) f fd ps sp := by
  obtain ⟨oc, od, kV, doc, pm, an, cdv, ct, osl, rfl, lk, hcd⟩ := F.ex
  exact fn_of lk hcd S len fun A outer s H vs Q E hr hsp => hbody cdv A outer s H vs Q E hr hsp
theorem FunD.okN {x : Str} {st : Stmt} {dV : Value} {fd : FuncData} {N ps : List Str} {k : Nat} {sp : Sp} (F : FunD K x qual st dV f fd) (S : FnScope N ps (defScope st)) (len : ∀ vs H Q E, sp vs H Q E → vs.length = ps.length)
    (hbody : ∀ (cdv : Value) (A : Around) (outer : List Env) (s : Shared) (H : Hp) (vs : List V) (Q : VK) (E : XK), Room k (A.deeper (envOfC qual (defScope st) s.heap.objs.size f cdv)) → sp vs H Q E →
      ∃ t, PSs (cxE P w K mg base N qual (defScope st) f cdv A outer s H E).nox (defBody st) t ∧ t { nx := fun _ H' => Q .non H', rt := Q } (start N vs) H) : FnOk P w K mg base (CXE P w) (k + 1) f fd ps sp :=
  F.okE S len fun cdv A outer s H vs Q E hr hsp => let ⟨t, h, q⟩ := hbody cdv A outer s H vs Q E hr hsp; ⟨t, h.nox, q⟩
end
def XP (X : Cx) (pins : List (Addr × Obj)) (σ : St) (E : XK) (e : Value) (s' : Shared) : Prop := ∃ ea T cls dx H', e = .ref ea ∧ Inv X pins σ H' s' ∧ Apart X pins H' ea ∧ Apart X pins H' T ∧ Fly s'.heap ea T cls dx ∧ E cls dx H'
def PX (X : Cx) (e : Expr) (t : XK → TE) : Prop :=
  ∀ (pins : List (Addr × Obj)) (s : Shared) (σ : St) (H : Hp) (Q : VK) (E : XK), Inv X pins σ H s → t E σ H Q → wpAny (model X.prog X.w) X.A (eval e X.env) (EP X pins σ Q) (XP X pins σ E) s
def PB (X : Cx) (sts : List Stmt) (t : XK → TS) : Prop :=
  ∀ (pins : List (Addr × Obj)) (s : Shared) (σ : St) (H : Hp) (D : Ends) (E : XK), Inv X pins σ H s → t E D σ H → wpAny (model X.prog X.w) X.A (execs sts X.env) (SP X pins D) (XP X pins σ E) s
section
variable {X : Cx} {k : Nat} {f C : Addr} {fd : FuncData} {ps : List Str} {sp : Sp} {dvs : List V} {ds : List Value} {x m : Str} {p pos apos : Pos} {e o : Expr} {es : List Expr} {ta : TE} {t : TA}
theorem xp_of (hx : X.ex = []) {pins : List (Addr × Obj)} {σ : St} {H : Hp} {s s' : Shared} {E : XK} {ev : Value} (I : Inv X pins σ H s) (h : CXE X.prog X.w X.stack H s E ev s') : XP X pins σ E ev s' := by
  obtain ⟨ea, T, cls, dx, H', rfl, h1, h2, h3, h4, h5, h6, h7, h8, h9, h10⟩ := h
  have a1 := I.apart hx h7
  have a2 := I.apart hx h8
  exact ⟨ea, T, cls, dx, H', rfl, I.call' h1 h3 h4 h2 (by intro b hb; cases hb), ⟨h5, a1.old, a1.loc, a1.cell, a1.pin⟩, ⟨h6, a2.old, a2.loc, a2.cell, a2.pin⟩, h9, h10⟩
theorem run_fnX (hx : X.ex = []) {pins : List (Addr × Obj)} {σ : St} {H : Hp} {s : Shared} {Q : VK} {E : XK} {us : List Value} {vs : List V} (F : FnOk X.prog X.w X.K X.mg X.base (CXE X.prog X.w) k f fd ps sp) (hr : Room k X.A) (hb : Binds X.K fd ps ds) (hd : Vals dvs ds)
    (I : Inv X pins σ H s) (r : Vals vs us) (h : sp (vs ++ dvs) H Q E) : wpAny (model X.prog X.w) X.A (call (.ref f) us) (EP X pins σ Q) (XP X pins σ E) s := by
  have r2 : Vals (vs ++ dvs) (us ++ ds) := r.append hd
  have hl : (us ++ ds).length = ps.length := by rw [← r2.length]; exact F.len _ _ _ _ h
  refine wpAny_call (codeAny_mono (F.run X.A X.stack s H ⟨us, []⟩ (us ++ ds) (vs ++ dvs) Q E hr I.env0 (hb s us I.kIn hl) r2 h) fun rr s' hq => ?_)
  cases rr with
  | error ev => exact xp_of hx I hq
  | ok fl =>
    cases fl with
    | ret u => exact I.after hq
    | next => exact False.elim hq
    | brk => exact False.elim hq
    | cont => exact False.elim hq
theorem pb_set {te : XK → TE} {i : Nat} {pos' : Pos} (hN : X.N.Nodup) (hi : X.N[i]? = some x) (hl : Loc X.env.scope x) (h : PX X e te) (hs : swapsWith e (some (.Name x pos')) pos.line X.env = pure false := by rfl)
    (hf : X.fn x = true ∨ X.env.scope.names.lookup x = some .local := by first | exact .inl rfl | exact .inr rfl | assumption) : PB X [.Assign [.Name x pos'] e pos] (fun E => tAsg (te E) (gName i)) := by
  intro pins s σ H D E I hw
  refine wpAny_execs_cons (wpAny_Assign_Name (thn (h pins s σ H _ E I hw) fun v s1 ⟨y, H1, I1, r1, q1⟩ => ?_) hs)
  exact store_ok I1 hN hi hl r1 (fun s2 I2 => wpAny_execs_nil ⟨_, H1, I2, q1⟩) hf
end
abbrev Cx.hand (X : Cx) (ea : Addr) : Cx := { X with A := X.A.mark (some (.ref ea)), calm := false, xe := fun _ _ => False }
theorem Cx.Ok.hand {X : Cx} (ok : X.Ok) (ea : Addr) : (X.hand ea).Ok :=
  ⟨ok.mod, ok.kind, ok.glob, ok.blt, ok.above, ok.inj, ok.has, ok.cab, (fun z => by cases z), ok.frames, ok.stk, ok.exf, ok.bs, ok.bsz, ok.noex, ok.exfs, ok.funs, ok.frf⟩
theorem Cx.Ok.unhand {X : Cx} {ea : Addr} (ok0 : X.Ok) (ok : (X.hand ea).Ok) : X.Ok := ok0
section
variable {X : Cx} {pins : List (Addr × Obj)} {σ : St} {H : Hp} {s : Shared} {ea : Addr}
theorem Inv.hand (I : Inv X pins σ H s) (ea : Addr) : Inv (X.hand ea) pins σ H s := ⟨I.ok.hand ea, I.os, I.bare, I.base, I.loc, I.cell, I.free, I.freeC, I.pin, I.hok, I.len⟩
theorem Inv.unhand (ok : X.Ok) (I : Inv (X.hand ea) pins σ H s) : Inv X pins σ H s := ⟨ok, I.os, I.bare, I.base, I.loc, I.cell, I.free, I.freeC, I.pin, I.hok, I.len⟩
def excAt (ea : Addr) (cls : Value) (dx : Option Addr) : HO := .ext fun h => ∃ oe vs, h.get? ea = some oe ∧ oe.cls = cls ∧ oe.dict = dx ∧ oe.data = .fields vs
theorem Inv.track {cls : Value} {dx : Option Addr} (I : Inv X pins σ H s) (a : Apart X pins H ea) (hx : ∃ oe vs, s.heap.get? ea = some oe ∧ oe.cls = cls ∧ oe.dict = dx ∧ oe.data = .fields vs) : Inv X pins σ (upd H ea (excAt ea cls dx)) s := by
  have ne : ∀ b o, X.s₀.heap.get? b = some o → b ≠ ea := fun b o e z => by rw [z, a.old] at e; cases e
  have nt : ∀ b o, H b = some o → b ≠ ea := fun b o e => ne_of_none e a.trk
  refine ⟨I.ok, I.os, I.bare, ⟨I.base.keep, I.base.slot, fun b o e n hx => ?_, I.base.there, fun b xs e => ?_, fun b o xs e => ?_, fun b ps e => ?_⟩, I.loc, I.cell, ?_, fun x c e => ?_, fun p hp => ?_, fun b u e => ?_, I.len⟩
  · rw [upd_ne (ne b o e)]; exact I.base.free b o e n hx
  · have q := I.base.tups b xs e
    rw [upd_ne (nt b _ q)]; exact q
  · have q := I.base.frzs b o xs e
    rw [upd_ne (nt b _ q)]; exact q
  · obtain ⟨mm, q⟩ := I.base.tbls b ps e
    exact ⟨mm, by rw [upd_ne (nt b _ q)]; exact q⟩
  · rw [upd_ne (Ne.symm a.loc)]; exact I.free
  · rw [upd_ne (a.cell x c e)]; exact I.freeC x c e
  · obtain ⟨q1, q2, q3⟩ := I.pin p hp
    exact ⟨q1, by rw [upd_ne (a.pin p hp)]; exact q2, q3⟩
  · by_cases hb : b = ea
    · subst hb
      rw [upd_same] at e
      cases e
      obtain ⟨oe, vs, q1, q2, q3⟩ := hx
      exact ⟨⟨oe, vs, q1, q2, q3⟩, ⟨oe, q1⟩, fun h1 h2 ⟨o1, v1, z1, z2⟩ k => ⟨o1, v1, k _ z1, z2⟩⟩
    · rw [upd_ne hb] at e
      exact (I.hok b u e).stay (fun _ _ _ q => q) (fun c q => by rw [upd_ne (nt c _ q)]; exact q) fun c xs q => by rw [upd_ne (nt c _ q)]; exact q
end
end L2
set_option maxRecDepth 100000
set_option maxHeartbeats 1000000
namespace L2
open PySem PySem.Spec PyProof.Rows
structure XCls (K : PySem.W.Frag) (C : Addr) : Prop where
  ga : PySem.W.findIn K (.ref C) "__getattribute__" = some (some (.builtin "BaseException.__getattribute__"))
  gt : PySem.W.findIn K (.ref C) "__getattr__" = some none
  ic : (PySem.W.clsIn K C).isSome = true
  kc : PySem.W.findIn K (.ref C) "__class__" = some (some (.builtin "object.__class__"))
  kg : PySem.W.specialIn K (.builtin "object.__class__") "__get__" = some (some (.builtin "getset_descriptor.__get__"))
  kt : PySem.W.takesIn K (.builtin "object.__class__") = some true
  mo : PySem.W.mroIn K C (.type "object") = some true
  mb : PySem.W.mroIn K C (.type "BaseException") = some true
section
variable {prog : Program} {w : World} {A : Around} {E : Value → Shared → Prop} {s : Shared} {K : PySem.W.Frag} {ea C : Addr} {oe : Obj} {od : Option Obj}
end
theorem ic_of {K : PySem.W.Frag} {C : Addr} {v : Value} {b : Bool} (h : PySem.W.mroIn K C v = some b) : (PySem.W.clsIn K C).isSome = true := by
  unfold PySem.W.mroIn at h
  cases e : PySem.W.clsIn K C with
  | none => rw [e] at h; cases h
  | some c => rfl
section
variable {X : Cx}
end
end L2
set_option maxRecDepth 100000
set_option maxHeartbeats 1000000
namespace L2
open PySem PySem.Spec PyProof.Rows
section
variable {X : Cx}
theorem pe_bmK {o e : Expr} {es : List Expr} {to : TE} {t : TA} {name : Str} {apos cpos : Pos} {T id : String} {r : V → List V → Hp → VK → Prop} (K : PySem.W.Frag) (pa : PlainAttrs T) (slot : Slot T name id) (hty : typeOf (.builtin id) = pure (.type "method_descriptor")) (hm : MtR X id r) (ho : PE X o to) (ha : PA X (e :: es) t)
    (hbase : attributeBase o name X.env (eval o X.env) = eval o X.env := by rfl)
    (hfew : ((backTo cpos (starEach (e :: es) X.env)).all (fun x => !x.1) && (backToKw cpos (keywordEach [] X.env)).all (fun x => x.1.isSome)
      && decide ((e :: es).length + ([] : List Keyword).length + (if ([] : List Keyword).isEmpty then 0 else 1) < 30)) = true := by rfl)
    (hline : (apos.endLine == cpos.line) = true := by rfl) (hs : starEach (e :: es) X.env = (false, eval e X.env) :: starEach es X.env := by rfl) (hplain : (backTo cpos (starEach es X.env)).any (·.1) = false := by rfl) (hK : X.K = K := by rfl) :
    PE X (.Call (.Attribute o name apos) (e :: es) [] cpos) (tBM K T r to t) := by
  subst hK
  exact pe_bm pa slot hty hm ho ha hbase hfew hline hs hplain
theorem call_isiT (K : PySem.W.Frag) (hK : X.K = K := by rfl) : CallR X (.builtin "isinstance") (fun xs H Q => ∃ x n t b, xs = [x, .ty n] ∧ TyOf K H x (.type t) ∧ PySem.W.kitOne K (.type t) (.type n) = some b ∧ Q (.bl b) H) := by
  subst hK
  intro pins s σ H xs us Q I r h
  obtain ⟨x, n, t, b, rfl, ht, hb, q⟩ := h
  obtain ⟨u, w', rfl, r1, r2⟩ := vals2 r
  cases r2
  exact isinst_ok I r1 ht hb fun tk => ⟨.bl b, H, I.tok tk, rfl, q⟩
end
theorem pe_gint {X : Cx} {x : Str} {i : Int} {pos : Pos} (hg : Gl X x) (hm : ∃ t, X.mg x = some (.int i t)) (hd : (x == ("__debug__" : Str)) = false := by decide) : PE X (.Name x pos) (tC (.int i)) := by
  obtain ⟨t, h⟩ := hm
  exact pe_glob hg h ⟨_, rfl⟩ hd
end L2
set_option maxRecDepth 100000
set_option maxHeartbeats 4000000
namespace L2
open PySem PySem.NumText PyProof.Rows
abbrev cs (x : Str) : List Nat := x.cps.toList
end L2
set_option maxRecDepth 100000
set_option maxHeartbeats 1000000
namespace L2
open PySem PySem.Spec PyProof.Rows
structure XInit (K : PySem.W.Frag) (C CL f : Addr) : Prop where
  obj : ∃ nm qn N bs hdct sn sub ab col dd k0 k1 k2 k3 k5, K.lookup C = some (excClassObj nm qn C N bs (.ref CL :: veMro) hdct sn sub ab col dd k0 k1 k2 k3 k5 "ValueError.__new__")
  up : ExcC K CL
  top : ∃ nm qn N bs hdct sn sub ab col dd k0 k1 k2 k3 k5, K.lookup CL = some (excClassObj nm qn CL N bs veMro hdct sn sub ab col dd k0 k1 k2 k3 k5 "ValueError.__new__")
  init : PySem.W.findIn K (.ref C) "__init__" = some (some (.ref f))
  fn : PySem.W.typeIn K (.ref f) = some (.type "function")
  kp : PySem.W.keepIn K (.ref C) = true
  sa : PySem.W.findIn K (.ref C) "__setattr__" = some (some (.builtin "object.__setattr__"))
  hd : PySem.W.hasDictIn K C = true
  xc : XCls K C
theorem XInit.here {K : PySem.W.Frag} {C CL f : Addr} (x : XInit K C CL f) {g : Heap} (kin : K.In g) : ∃ nm qn N bs hdct sn sub ab col dd k0 k1 k2 k3 k5, g.get? C = some (excClassObj nm qn C N bs (.ref CL :: veMro) hdct sn sub ab col dd k0 k1 k2 k3 k5 "ValueError.__new__") ∧ OwnTail g veMro (.ref CL :: veMro) := by
  obtain ⟨nm, qn, N, bs, hdct, sn, sub, ab, col, dd, k0, k1, k2, k3, k5, h⟩ := x.obj
  refine ⟨nm, qn, N, bs, hdct, sn, sub, ab, col, dd, k0, k1, k2, k3, k5, kin _ _ h, ?_⟩
  obtain ⟨nm', qn', N', bs', bm', hdct', sn', sub', ab', col', dd', j0, j1, j2, j3, j5, mN, c1, c2, c3, c4⟩ := exc_of kin x.up
  exact .own c1 c2 c3 .base
section
variable {prog : Program} {w : World} {A : Around} {E : Value → Shared → Prop} {s : Shared} {K : PySem.W.Frag} {ea C CL f : Addr} {oe : Obj} {od : Option Obj}
end
section
variable {X : Cx} {pins : List (Addr × Obj)} {σ : St} {H : Hp} {s : Shared} {ea C CL f : Addr}
end
section
variable {P : Program} {w : World} {K : PySem.W.Frag} {mg : Str → Option Value} {base : Heap} {N : List Str} {qual : Str} {scope : Scope} {f : Addr} {cd : Value} {A : Around} {outer : List Env} {s₀ : Shared} {H₀ : Hp} {E : XK}
end
end L2
set_option maxRecDepth 100000
set_option maxHeartbeats 1000000
namespace L2
open PySem PySem.Spec PyProof.Rows
section
variable {X : Cx} {pins : List (Addr × Obj)} {σ : St} {H : Hp} {s : Shared} {ea : Addr}
end
structure UpInit (K : PySem.W.Frag) (CL : Addr) : Prop where
  sp : PySem.W.specialIn K (.ref CL) "__getattribute__" = some (some (.builtin "type.__getattribute__"))
  rd : PySem.W.readsIn K CL (.type "type") = true
  fc : PySem.W.findCls K (.ref CL) (.type "type") "__init__" = some (.val (.builtin "ValueError.__init__"))
section
variable {X : Cx} {o e value : Expr} {es : List Expr} {f x : Str} {pos pos' apos np : Pos} {ta tv : TE} {t : TA}
end
structure FnH (P : Program) (w : World) (K : PySem.W.Frag) (mg : Str → Option Value) (base : Heap) (k : Nat) (f : Addr) (fd : FuncData) (ps : List Str) (sp : Sp) : Prop where
  len : ∀ vs H Q E, sp vs H Q E → vs.length = ps.length
  run : ∀ (A : Around) (ea : Addr) (outer : List Env) (s : Shared) (H : Hp) (args : Args) (us : List Value) (vs : List V) (Q : VK), Room k A → Env0 P w K mg base A outer s H → BindsTo s fd args (ps.zip us) → Vals vs us → sp vs H Q E0 →
    codeAny (model P w) (A.mark (some (.ref ea))) (.call (.ref f) args) (fun r s' => match r with | .ok (.ret u) => CE outer P w H s Q u s' | _ => False) s
section
variable {P : Program} {w : World} {K : PySem.W.Frag} {mg : Str → Option Value} {base : Heap} {qual : Str} {f : Addr}
end
end L2
set_option maxRecDepth 100000
set_option maxHeartbeats 1000000
namespace L2
open PySem PySem.Spec PySem.NumText PyProof.Rows
section
variable {X : Cx}
theorem call_allB (K : PySem.W.Frag) (hc : X.calm = true) (hK : X.K = K := by rfl) : CallR X (.builtin "all") (fun xs H Q => ∃ (p : Addr) (bs : List Bool), xs = [.ref p] ∧ SqL K H p (bs.map V.bl) ∧ Q (.bl (bs.all id)) H) := by
  subst hK
  intro pins s σ H xs us Q I r h
  obtain ⟨p, bs, rfl, hq, q⟩ := h
  obtain ⟨u, rfl, rfl⟩ := vals1 r
  obtain ⟨its, rv, pl, hz⟩ := I.list hq
  have nth : ∀ (i : Nat) (v : Value), its.toArray[i]? = some v → v = Value.bool (bs.getD i true) := fun i v e => by
    have e : its[i]? = some v := by simpa using e
    have hi : i < bs.length := by
      have := (List.getElem?_eq_some_iff.mp e).1
      have h2 := rv.length
      simp at h2
      omega
    obtain ⟨u, e2, r2⟩ := rv.get (i := i) (x := V.bl bs[i]) (by simp [hi])
    rw [e] at e2
    cases e2
    cases r2
    rw [List.getD_eq_getElem?_getD, List.getElem?_eq_getElem hi]
    rfl
  refine call_all_walk (wpAny_pyIter_list pl.isList ?_)
  have hne : p ≠ s.heap.objs.size := by
    obtain ⟨o, e, _⟩ := pl.isList
    exact Nat.ne_of_lt (Heap.lt_size e)
  refine ⟨s.heap.objs.size, _, _, _, _, _, fun i => bs.getD i true, rfl, Walks.list (A := X.A.in1) (I.ok.hd hc) s.heap.objs.size p hne its.toArray, ⟨?_, ?_⟩, ?_, ?_⟩
  · exact ⟨_, Heap.get?_push_size _ rfl, rfl, rfl⟩
  · obtain ⟨o, e, r⟩ := pl.isList
    exact ⟨o, Heap.get?_push_of_some _ e, r⟩
  · intro i v s1 Q1 E1 hP hQ
    rw [nth i v hP]
    exact wpAny_truthy_bool hQ
  · intro h' tk hk
    refine ⟨.bl _, H, I.kept (t' := tk) (h' := h') fun b o e => hk b o (fun z => ?_) (Heap.get?_push_of_some _ e), rfl, ?_⟩
    · rw [List.mem_singleton] at z
      rw [z] at e
      exact absurd (Heap.lt_size e) (Nat.lt_irrefl _)
    · have hl : its.toArray.size = bs.length := by have := rv.length; simp at this ⊢; omega
      rw [hl]
      have : ((List.range bs.length).all fun i => bs.getD i true) = bs.all id := by
        clear q rv nth hl hq hz
        induction bs with
        | nil => rfl
        | cons b bs ih => rw [List.length_cons, List.range_succ_eq_map, List.all_cons, List.all_map, List.all_cons, ← ih]; rfl
      rw [this]; exact q
end
theorem boot_all : bootBuiltins "all" = some (.builtin "all") := by decide +kernel
end L2
set_option maxRecDepth 100000
set_option maxHeartbeats 1000000
namespace L2
open PySem PySem.Spec PySem.NumText PyProof.Rows
section
variable {X : Cx}
theorem boot_list : bootBuiltins "list" = some (.type "list") := by decide +kernel
theorem boot_dict : bootBuiltins "dict" = some (.type "dict") := by decide +kernel
theorem op_in_seqK (K : PySem.W.Frag) (hK : X.K = K := by rfl) : OpR X (compareOp .In) (rIn K false) := by subst hK; exact op_in_seq
end
structure ItemOk (e : Expr) (te : TE) : Prop where
  pe : ∀ X : Cx, PE X e te
  st : ∀ (es : List Expr) (env : Env), starEach (e :: es) env = (false, eval e env) :: starEach es env
theorem ItemOk.pa {X : Cx} {e : Expr} {te : TE} {es : List Expr} {t : TA} (i : ItemOk e te) (h : PA X es t) : PA X (e :: es) (tCons te t) := pa_cons (i.pe X) h (i.st es X.env)
end L2
namespace L2
open PySem PySem.Spec PySem.NumText PyProof.Rows
theorem atI_in {α : Type} {l : List α} {j : Int} (h0 : 0 ≤ j) (h1 : j < l.length) : ∃ c, atI l j = some c := by
  have h2 : j.toNat < l.length := by omega
  refine ⟨l[j.toNat], ?_⟩
  have := atI_nat (xs := l) (j := j.toNat) (List.getElem?_eq_getElem h2)
  rwa [Int.toNat_of_nonneg h0] at this
end L2
set_option maxRecDepth 100000
namespace L2
open PySem PySem.Spec PyProof.Rows
section
variable {κ : Type} [DecidableEq κ]
def valV (kvs : List (κ × V)) (k : κ) : Option V := (kvs.find? fun kv => decide (kv.1 = k)).map (·.2)
def putK (kvs : List (κ × V)) (k : κ) (v : V) : List (κ × V) :=
  if (kvs.any fun kv => decide (kv.1 = k)) = true then kvs.map (fun kv => if kv.1 = k then (kv.1, v) else kv) else kvs ++ [(k, v)]
def dropK (kvs : List (κ × V)) (k : κ) : List (κ × V) := kvs.filter fun kv => decide (kv.1 ≠ k)
theorem valV_pos {p : κ × V} {r : List (κ × V)} {k : κ} (e : p.1 = k) : valV (p :: r) k = some p.2 := by simp [valV, List.find?_cons, e]
theorem valV_neg {p : κ × V} {r : List (κ × V)} {k : κ} (e : ¬ p.1 = k) : valV (p :: r) k = valV r k := by simp [valV, List.find?_cons, e]
theorem valV_any (k : κ) : ∀ kvs : List (κ × V), (kvs.any fun kv => decide (kv.1 = k)) = (valV kvs k).isSome
  | [] => rfl
  | p :: r => by
    rw [List.any_cons]
    by_cases e : p.1 = k
    · simp only [valV_pos e, decide_eq_true e, Bool.true_or, Option.isSome_some]
    · rw [valV_neg e, decide_eq_false e, Bool.false_or]; exact valV_any k r
theorem length_putK (kvs : List (κ × V)) (k : κ) (v : V) : (putK kvs k v).length ≤ kvs.length + 1 := by
  unfold putK
  split
  · rw [List.length_map]; omega
  · rw [List.length_append, List.length_cons, List.length_nil]; omega
theorem RelO.isSome_eq {o : Option V} {u : Option Value} (r : RelO o u) : o.isSome = u.isSome := by
  cases o with
  | none => cases u with
    | none => rfl
    | some _ => exact (show False from r).elim
  | some _ => cases u with
    | none => exact (show False from r).elim
    | some _ => rfl
theorem RelO.getD {o : Option V} {u : Option Value} {d : V} {d' : Value} (r : RelO o u) (rd : RelV d d') : RelV (o.getD d) (u.getD d') := by
  cases o with
  | none => cases u with
    | none => exact rd
    | some _ => exact (show False from r).elim
  | some _ => cases u with
    | none => exact (show False from r).elim
    | some _ => exact r
theorem KV.val {kvs : List (κ × V)} {vs : List (κ × Value)} (r : KV kvs vs) (k : κ) : RelO (valV kvs k) (valueAt vs k) := by
  unfold KV at r
  induction r with
  | nil => exact True.intro
  | @cons p q ps qs h t ih =>
    obtain ⟨h1, h2⟩ := h
    by_cases e : p.1 = k
    · have e' : q.1 = k := h1.symm.trans e
      have b : valueAt (q :: qs) k = some q.2 := by simp [valueAt, List.find?_cons, e']
      rw [valV_pos e, b]; exact h2
    · have e' : ¬ q.1 = k := fun z => e (h1.trans z)
      have b : valueAt (q :: qs) k = valueAt qs k := by simp [valueAt, List.find?_cons, e']
      rw [valV_neg e, b]; exact ih
theorem KV.any {kvs : List (κ × V)} {vs : List (κ × Value)} (r : KV kvs vs) (k : κ) : (kvs.any fun kv => decide (kv.1 = k)) = vs.any fun kv => decide (kv.1 = k) := by
  unfold KV at r
  induction r with
  | nil => rfl
  | cons h t ih => rw [List.any_cons, List.any_cons, ih, h.1]
theorem KV.repl {kvs : List (κ × V)} {vs : List (κ × Value)} (r : KV kvs vs) (k : κ) {y : V} {u : Value} (ry : RelV y u) :
    KV (kvs.map fun kv => if kv.1 = k then (kv.1, y) else kv) (vs.map fun kv => if kv.1 = k then (kv.1, u) else kv) := by
  unfold KV at r ⊢
  induction r with
  | nil => exact .nil
  | @cons p q ps qs h t ih =>
    rw [List.map_cons, List.map_cons]
    refine .cons ?_ ih
    obtain ⟨h1, h2⟩ := h
    by_cases e : p.1 = k
    · rw [if_pos e, if_pos (h1.symm.trans e)]; exact ⟨h1, ry⟩
    · rw [if_neg e, if_neg (fun z => e (h1.trans z))]; exact ⟨h1, h2⟩
theorem KV.put {kvs : List (κ × V)} {vs : List (κ × Value)} (r : KV kvs vs) (k : κ) {y : V} {u : Value} (ry : RelV y u) : KV (putK kvs k y) (stored vs k u) := by
  unfold putK stored
  rw [r.any k]
  by_cases e : (vs.any fun kv => decide (kv.1 = k)) = true
  · rw [if_pos e, if_pos e]; exact r.repl k ry
  · rw [if_neg e, if_neg e]; exact Paired.snoc r ⟨rfl, ry⟩
theorem KV.drop {kvs : List (κ × V)} {vs : List (κ × Value)} (r : KV kvs vs) (k : κ) : KV (dropK kvs k) (without vs k) := by
  unfold KV at r ⊢
  unfold dropK without
  induction r with
  | nil => exact .nil
  | @cons p q ps qs h t ih =>
    obtain ⟨h1, h2⟩ := h
    rw [List.filter_cons, List.filter_cons]
    by_cases e : p.1 = k
    · have a : ¬ decide (p.1 ≠ k) = true := by simp [e]
      have b : ¬ decide (q.1 ≠ k) = true := by simp [h1.symm.trans e]
      rw [if_neg a, if_neg b]; exact ih
    · have e' : ¬ q.1 = k := fun z => e (h1.trans z)
      have a : decide (p.1 ≠ k) = true := by simp [e]
      have b : decide (q.1 ≠ k) = true := by simp [e']
      rw [if_pos a, if_pos b]; exact .cons ⟨h1, h2⟩ ih
theorem KV.keys {kvs : List (κ × V)} {vs : List (κ × Value)} (r : KV kvs vs) : kvs.map (·.1) = vs.map (·.1) := by
  unfold KV at r
  induction r with
  | nil => rfl
  | cons h t ih => rw [List.map_cons, List.map_cons, ih, h.1]
theorem KV.length {kvs : List (κ × V)} {vs : List (κ × Value)} (r : KV kvs vs) : kvs.length = vs.length := Paired.length r
end
theorem kV_is {P : Program} {w : World} {k : Key} {u : Value} (r : RelV (kV k) u) : (mixKind P w).is k u = true := by
  cases k with
  | inl i => obtain ⟨t, e⟩ := (show ∃ t, u = Value.int i t from r); subst e; exact mixKind_int P w i t
  | inr x => obtain ⟨t, e⟩ := (show ∃ t, u = Value.str x t from r); subst e; exact mixKind_str P w x t
theorem items_are {P : Program} {w : World} : ∀ {ks : List Key} {us : List Value}, Vals (ks.map kV) us → ItemsAre (mixKind P w) ks us
  | [], _, r => by rw [List.map_nil] at r; cases r; exact .nil
  | k :: ks, _, r => by
    rw [List.map_cons] at r
    cases r with
    | cons h t => exact .cons (kV_is h) (items_are t)
abbrev KT (H : Hp) : List (List Key × V) → List (List Key × Addr × Value) → Prop := Paired fun p q => p.1 = q.1 ∧ H q.2.1 = some (.tup (p.1.map kV)) ∧ RelV p.2 q.2.2
theorem KT.val {H : Hp} {kvs : List (List Key × V)} {xs : List (List Key × Addr × Value)} (r : KT H kvs xs) (k : List Key) : RelO (valV kvs k) ((atKey xs k).map (·.2)) := by
  induction r with
  | nil => exact True.intro
  | @cons p q ps qs h t ih =>
    obtain ⟨h1, _, h2⟩ := h
    by_cases e : p.1 = k
    · have e' : q.1 = k := h1.symm.trans e
      have b : atKey (q :: qs) k = some q.2 := by simp [atKey, List.find?_cons, e']
      rw [valV_pos e, b]; exact h2
    · have e' : ¬ q.1 = k := fun z => e (h1.trans z)
      have b : atKey (q :: qs) k = atKey qs k := by simp [atKey, List.find?_cons, e']
      rw [valV_neg e, b]; exact ih
theorem KT.repl {H : Hp} {kvs : List (List Key × V)} {xs : List (List Key × Addr × Value)} (r : KT H kvs xs) (k : List Key) {y : V} {u : Value} (ry : RelV y u) :
    KT H (kvs.map fun kv => if kv.1 = k then (kv.1, y) else kv) (xs.map (putAt k u)) := by
  induction r with
  | nil => exact .nil
  | @cons p q ps qs h t ih =>
    rw [List.map_cons, List.map_cons]
    refine .cons ?_ ih
    obtain ⟨h1, h2, h3⟩ := h
    unfold putAt
    by_cases e : p.1 = k
    · rw [if_pos e, if_pos (h1.symm.trans e)]; exact ⟨h1, h2, ry⟩
    · rw [if_neg e, if_neg (fun z => e (h1.trans z))]; exact ⟨h1, h2, h3⟩
theorem KT.put {H : Hp} {kvs : List (List Key × V)} {xs : List (List Key × Addr × Value)} (r : KT H kvs xs) (k : List Key) {b : Addr} {y : V} {u : Value} (hb : H b = some (.tup (k.map kV))) (ry : RelV y u) :
    KT H (putK kvs k y) (storedH xs k b u) := by
  have e : (kvs.any fun kv => decide (kv.1 = k)) = (atKey xs k).isSome := by
    rw [valV_any, (r.val k).isSome_eq, Option.isSome_map]
  unfold putK storedH
  rw [e]
  by_cases q : (atKey xs k).isSome = true
  · rw [if_pos q, if_pos q]; exact r.repl k ry
  · rw [if_neg q, if_neg q]; exact Paired.snoc r ⟨rfl, hb, ry⟩
theorem KT.keeps {H H' : Hp} {kvs : List (List Key × V)} {xs : List (List Key × Addr × Value)} (r : KT H kvs xs) (ht : ∀ b ys, H b = some (.tup ys) → H' b = some (.tup ys)) : KT H' kvs xs :=
  Paired.mapP r fun _ _ z => ⟨z.1, ht _ _ z.2.1, z.2.2⟩
section
variable {P : Program} {w : World} {H : Hp} {h : Heap} {a : Addr}
theorem rd_of {u : HO} (ok : HOk P w H h) (e : Rd H a u) : ObjOk P w H h a u := e.ok ok
theorem dk_rd {kvs : List (Key × V)} (ok : HOk P w H h) (e : Rd H a (.dK kvs)) : kvs.length ≤ sizeLine ∧ (a == sysModules) = false ∧ ∃ vs, KV kvs vs ∧ h.DictOf (mixKind P w) a vs :=
  show ObjOk P w H h a (.dK kvs) from rd_of ok e
theorem dk_of {kvs : List (Key × V)} (ok : HOk P w H h) (e : H a = some (.dK kvs)) : kvs.length ≤ sizeLine ∧ (a == sysModules) = false ∧ ∃ vs, KV kvs vs ∧ h.DictOf (mixKind P w) a vs := dk_rd ok (.inl e)
theorem key_of {ks : List Key} (ok : HOk P w H h) (e : H a = some (.tup (ks.map kV))) : (tupleKind (mixKind P w)).is h ks a := by
  obtain ⟨_, its, r, o, h1, h2, n, h3⟩ := (show ObjOk P w H h a (.tup (ks.map kV)) from ok a _ e)
  exact ⟨o, its.toArray, n, h1, h2, h3, by simpa using items_are r⟩
theorem dt_rd {kvs : List (List Key × V)} (ok : HOk P w H h) (e : Rd H a (.dT kvs)) : kvs.length ≤ sizeLine ∧ (a == sysModules) = false ∧
    ∃ xs, KT H kvs xs ∧ h.DictOfH (tupleKind (mixKind P w)) a xs := by
  obtain ⟨z, y, xs, r, o, es, ep, h1, h2, h3, h4, h5⟩ := (show ObjOk P w H h a (.dT kvs) from rd_of ok e)
  refine ⟨z, y, xs, r, o, es, ep, h1, h2, h3, h4, fun x hx => ?_, h5⟩
  have all : ∀ {l : List (List Key × V)} {m : List (List Key × Addr × Value)}, KT H l m → ∀ x ∈ m, (tupleKind (mixKind P w)).is h x.1 x.2.1 := by
    intro l m q
    induction q with
    | nil => intro x hx; exact nomatch hx
    | @cons p q ps qs hq t ih =>
      intro x hx
      rcases List.mem_cons.mp hx with e | hx
      · subst e
        exact key_of ok (by rw [← hq.1]; exact hq.2.1)
      · exact ih x hx
  exact all r x hx
theorem dt_of {kvs : List (List Key × V)} (ok : HOk P w H h) (e : H a = some (.dT kvs)) : kvs.length ≤ sizeLine ∧ (a == sysModules) = false ∧
    ∃ xs, KT H kvs xs ∧ h.DictOfH (tupleKind (mixKind P w)) a xs := dt_rd ok (.inl e)
end
def DGet (H : Hp) (a : Addr) (y : V) (r : Option V) : Prop :=
  (∃ kvs k, Rd H a (.dK kvs) ∧ y = kV k ∧ r = valV kvs k) ∨ ∃ kvs k b, Rd H a (.dT kvs) ∧ y = .ref b ∧ H b = some (.tup (k.map kV)) ∧ r = valV kvs k
def DPut (H : Hp) (a : Addr) (y v : V) (H' : Hp) : Prop :=
  (∃ kvs k, H a = some (.dK kvs) ∧ y = kV k ∧ kvs.length < sizeLine ∧ H' = upd H a (.dK (putK kvs k v))) ∨
  ∃ kvs k b, H a = some (.dT kvs) ∧ y = .ref b ∧ H b = some (.tup (k.map kV)) ∧ kvs.length < sizeLine ∧ H' = upd H a (.dT (putK kvs k v))
theorem DGet.k {H : Hp} {a : Addr} {kvs : List (Key × V)} {k : Key} (e : H a = some (.dK kvs)) : DGet H a (kV k) (valV kvs k) := .inl ⟨kvs, k, .inl e, rfl, rfl⟩
theorem DGet.t {H : Hp} {a b : Addr} {kvs : List (List Key × V)} {k : List Key} (e : H a = some (.dT kvs)) (eb : H b = some (.tup (k.map kV))) : DGet H a (.ref b) (valV kvs k) := .inr ⟨kvs, k, b, .inl e, rfl, eb, rfl⟩
theorem DPut.k {H : Hp} {a : Addr} {kvs : List (Key × V)} {k : Key} {v : V} (e : H a = some (.dK kvs)) (hl : kvs.length < sizeLine) : DPut H a (kV k) v (upd H a (.dK (putK kvs k v))) := .inl ⟨kvs, k, e, rfl, hl, rfl⟩
theorem DPut.t {H : Hp} {a b : Addr} {kvs : List (List Key × V)} {k : List Key} {v : V} (e : H a = some (.dT kvs)) (eb : H b = some (.tup (k.map kV))) (hl : kvs.length < sizeLine) :
    DPut H a (.ref b) v (upd H a (.dT (putK kvs k v))) := .inr ⟨kvs, k, b, e, rfl, eb, hl, rfl⟩
section
variable {X : Cx} {pins : List (Addr × Obj)} {σ : St} {H : Hp} {s : Shared} {a : Addr} {y v : V} {u r : Value} {o : Option V} {A : Around} {E : Value → Shared → Prop}
theorem Inv.big (I : Inv X pins σ H s) : sysModules < s.heap.objs.size := by
  have h : mainGlobals < s.heap.objs.size := (I.mod.glob.keeps I.bk).lt
  exact Nat.lt_trans (by decide) h
theorem d_getItem {Q : Value → Shared → Prop} (hu : A.units + 1 < cLine) (I : Inv X pins σ H s) (g : DGet H a y (some v)) (ry : RelV y u) (h : ∀ w' s', Inv X pins σ H s' → RelV v w' → Q w' s') :
    wpAny (model X.prog X.w) A (getItem (.ref a) u) Q E s := by
  rcases g with ⟨kvs, k, e, ey, l⟩ | ⟨kvs, k, b, e, ey, eb, l⟩
  · subst ey
    obtain ⟨z, hd, vs, rel, dd⟩ := dk_rd I.hok e
    obtain ⟨w', hw, rw'⟩ := RelO.some_of (v := v) (o := valueAt vs k) (by rw [l]; exact rel.val k)
    exact wpAny_getItem_of (kV_is ry) dd.mapOf hw (h w' _ (I.tok _) rw')
  · subst ey
    cases (show u = Value.ref b from ry)
    obtain ⟨z, hd, xs, rel, dd⟩ := dt_rd I.hok e
    obtain ⟨w', hw, rw'⟩ := RelO.some_of (v := v) (o := (atKey xs k).map (·.2)) (by rw [l]; exact rel.val k)
    obtain ⟨p, hp, hp2⟩ := Option.map_eq_some_iff.mp hw
    refine wpAny_getItem_heap (tupleKind_room_in1 hu) (key_of I.hok eb) dd hp ?_
    rw [hp2]
    exact h w' _ (I.tok _) rw'
theorem d_notIn {Q : Value → Shared → Prop} (hu : A.units + 1 < cLine) (I : Inv X pins σ H s) (g : DGet H a y o) (ry : RelV y u) (h : ∀ s', Inv X pins σ H s' → Q (.bool (!o.isSome)) s') :
    wpAny (model X.prog X.w) A (compareOp .NotIn u (.ref a)) Q E s := by
  rcases g with ⟨kvs, k, e, ey, l⟩ | ⟨kvs, k, b, e, ey, eb, l⟩
  · subst ey
    obtain ⟨z, hd, vs, rel, dd⟩ := dk_rd I.hok e
    refine wpAny_notIn_of (kV_is ry) hd dd.mapOf ?_
    rw [← (rel.val k).isSome_eq, ← l]
    exact h _ (I.tok _)
  · subst ey
    cases (show u = Value.ref b from ry)
    obtain ⟨z, hd, xs, rel, dd⟩ := dt_rd I.hok e
    refine wpAny_notIn_heap (tupleKind_room_in1 hu) (key_of I.hok eb) hd dd ?_
    have q := (rel.val k).isSome_eq
    rw [Option.isSome_map] at q
    rw [← q, ← l]
    exact h _ (I.tok _)
theorem d_write {h' : Heap} {t' : Nat} {ob : HO} (I : Inv X pins σ H s) (mu : Mut (H a)) (hs : Heap.SameBut a s.heap h') (he : ∃ q, h'.get? a = some q) (new : ObjOk X.prog X.w (upd H a ob) h' a ob) :
    Inv X pins σ (upd H a ob) { s with heap := h', toks := t' } :=
  I.write (x := a) (e := a) mu (.inl rfl) (fun b q hb z => (hs.2 b hb).trans z) he new
theorem dk_new {P : Program} {w : World} {H' : Hp} {h' : Heap} {kvs : List (Key × V)} {vs : List (Key × Value)} (z : kvs.length ≤ sizeLine) (hd : (a == sysModules) = false) (rel : KV kvs vs) (dd : h'.DictOf (mixKind P w) a vs) :
    ObjOk P w H' h' a (.dK kvs) := ⟨z, hd, vs, rel, dd⟩
theorem d_setItem {H' : Hp} {Q : Unit → Shared → Prop} (hu : A.units + 1 < cLine) (I : Inv X pins σ H s) (g : DPut H a y v H') (ry : RelV y u) (rv : RelV v r) (h : ∀ s', Inv X pins σ H' s' → Q () s') :
    wpAny (model X.prog X.w) A (setItem (.ref a) u r) Q E s := by
  rcases g with ⟨kvs, k, e, ey, l, eH⟩ | ⟨kvs, k, b, e, ey, eb, l, eH⟩
  · subst ey eH
    obtain ⟨z, hd, vs, rel, dd⟩ := dk_of I.hok e
    have hz : vs.length ≤ sizeLine := by rw [← rel.length]; exact z
    have hl : (putK kvs k v).length ≤ sizeLine := by have := length_putK kvs k v; omega
    refine wpAny_setItem_pairs (hsz := hz) (kV_is ry) dd fun h' dd' hs => h _ ?_
    have he : ∃ q, h'.get? a = some q := let ⟨q, _, _, hq, _⟩ := dd'; ⟨q, hq⟩
    exact d_write I (by rw [e]; exact True.intro) hs he (dk_new hl hd (rel.put k rv) dd')
  · subst ey eH
    cases (show u = Value.ref b from ry)
    obtain ⟨z, hd, xs, rel, dd⟩ := dt_of I.hok e
    have hz : xs.length ≤ sizeLine := by rw [← Paired.length rel]; exact z
    have hl : (putK kvs k v).length ≤ sizeLine := by have := length_putK kvs k v; omega
    refine wpAny_setItem_heap (hsz := hz) (tupleKind_room_in1 hu) (key_of I.hok eb) dd fun h' dd' hs => h _ ?_
    obtain ⟨q, es, ep, hq, h2, h3, h4, _, h5⟩ := dd'
    refine d_write I (by rw [e]; exact True.intro) hs ⟨q, hq⟩ ⟨hl, hd, _, (rel.put k eb rv).keeps fun c ys ec => ?_, q, es, ep, hq, h2, h3, h4, h5⟩
    rw [upd_ne (ne_of ec e (fun z => nomatch z))]
    exact ec
end
section
variable {X : Cx} {pins : List (Addr × Obj)} {σ : St} {H : Hp} {s : Shared} {a : Addr} {kvs : List (Key × V)} {k : Key} {u : Value} {A : Around} {E : Value → Shared → Prop}
end
def NoSl (i : Expr) : Prop := ∀ ov iv, subscripted i false ov iv = operate [ov, iv] (getItem ov iv)
theorem subD_of {prog : Program} {w : World} {A : Around} {E : Value → Shared → Prop} {s : Shared} {env : Env} {value slice : Expr} {pos : Pos} {T id : String} {Q : Value → Shared → Prop}
    (hl : typeLookup (.type T) "__getitem__" = pure (some (.builtin id))) (hs : NoSl slice)
    (h : wpAny (model prog w) A (eval value env) (fun o s₁ => wpAny (model prog w) A (eval slice env) (fun i s₂ => s₂.TypeIs o T ∧ wpAny (model prog w) A (getItem o i) Q E s₂) E s₁) E s) :
    wpAny (model prog w) A (eval (.Subscript value slice pos) env) Q E s := by
  refine Subscript_ (wpAny_mono h (fun o s₁ h₁ => wpAny_mono h₁ (fun i s₂ h₂ => ?_) fun _ _ x => x) fun _ _ x => x)
  obtain ⟨hT, h₂⟩ := h₂
  unfold subscriptTail
  refine wpAny_bind ?_
  rw [getitemInPython_of_ne hT.not_modules]
  refine wpAny_bind (wpAny_specialOf hT hl ?_)
  have fin : wpAny (model prog w) A (subscripted slice false o i) (fun r s₃ => wpAny (model prog w) A (letTemporaryGo value o r >>= fun _ => pure r) Q E s₃) E s₂ := by
    rw [hs o i]
    exact wpAny_operating (wpAny_mono h₂ (fun r s₃ h₃ => wpAny_bind (wpAny_letTemporaryGo (wpAny_pure h₃))) fun _ _ x => x)
  first
    | exact wpAny_pure (wpAny_bind fin)
    | exact wpAny_bind (wpAny_pure (wpAny_bind fin))
    | exact wpAny_bind fin
theorem dict_typeIs {X : Cx} {pins : List (Addr × Obj)} {σ : St} {H : Hp} {s : Shared} {a : Addr} {y : V} {o : Option V} (I : Inv X pins σ H s) (g : DGet H a y o) : s.TypeIs (.ref a) "dict" := by
  rcases g with ⟨kvs, k, e, _, _⟩ | ⟨kvs, k, b, e, _, _, _⟩
  · obtain ⟨_, _, vs, _, dd⟩ := dk_rd I.hok e
    exact dd.typeIs
  · obtain ⟨_, _, xs, _, dd⟩ := dt_rd I.hok e
    exact dd.typeIs
def tDGet (td ty : TE) : TE := fun σ H Q => td σ H fun x H1 => ty σ H1 fun y H2 => ∃ a v, x = .ref a ∧ DGet H2 a y (some v) ∧ Q v H2
def tDNotIn (ty td : TE) : TE := fun σ H Q => ty σ H fun y H1 => td σ H1 fun x H2 => ∃ a o, x = .ref a ∧ DGet H2 a y o ∧ Q (.bl (!o.isSome)) H2
def sDPut (td ty tv : TE) : TS := fun D σ H => tv σ H fun v H1 => td σ H1 fun x H2 => ty σ H2 fun y H3 => ∃ a H4, x = .ref a ∧ DPut H3 a y v H4 ∧ D.nx σ H4
section
variable {X : Cx} {o i e value : Expr} {pos pos' tpos : Pos} {td ty tv : TE}
theorem pe_dget (hu : X.A.units + 1 < cLine) (ho : PE X o td) (hi : PE X i ty) (hs : NoSl i) : PE X (.Subscript o i pos) (tDGet td ty) := by
  intro pins s σ H Q I h
  refine subD_of PySem.F.slot_dict_getitem.lookup hs (thn (ho pins s σ H _ I h) fun u s1 ⟨x, H1, I1, rx, q1⟩ => thn (hi pins s1 σ H1 _ I1 q1) fun iv s2 ⟨y, H2, I2, ry, a, v, ex, g, q2⟩ => ?_)
  subst ex
  obtain rfl : u = Value.ref a := rx
  exact ⟨dict_typeIs I2 g, d_getItem hu I2 g ry fun w' s3 I3 rw' => ⟨v, H2, I3, rw', q2⟩⟩
theorem pc_dnotin (hu : X.A.units + 1 < cLine) (hi : PE X i ty) (ho : PE X o td) : PC X .NotIn i o (tDNotIn ty td) := by
  intro pins s σ H Q I h
  refine thn (hi pins s σ H _ I h) fun iv s1 ⟨y, H1, I1, ry, q1⟩ => thn (ho pins s1 σ H1 _ I1 q1) fun u s2 ⟨x, H2, I2, rx, a, ov, ex, g, q2⟩ => ?_
  subst ex
  obtain rfl : u = Value.ref a := rx
  exact d_notIn hu I2 g ry fun s3 I3 => ⟨.bl (!ov.isSome), H2, I3, rfl, q2⟩
theorem ps_dput (hu : X.A.units + 1 < cLine) (ho : PE X o td) (hi : PE X i ty) (hv : PE X value tv) (hs : swapsWith value (some (.Subscript o i pos')) pos.line X.env = pure false) :
    PS X (.Assign [.Subscript o i pos'] value pos) (sDPut td ty tv) := by
  intro pins s σ H D I h
  refine wpAny_Assign_Subscript (thn (hv pins s σ H _ I h) fun r s1 ⟨v, H1, I1, rv, q1⟩ => thn (ho pins s1 σ H1 _ I1 q1) fun u s2 ⟨x, H2, I2, rx, q2⟩ => thn (hi pins s2 σ H2 _ I2 q2) fun iv s3 ⟨y, H3, I3, ry, a, H4, ex, g, q3⟩ => ?_) hs
  subst ex
  obtain rfl : u = Value.ref a := rx
  exact d_setItem hu I3 g ry rv fun s4 I4 => ⟨σ, H4, I4, q3⟩
end
theorem dk_empty {P : Program} {w : World} {H : Hp} (h : Heap) (hb : sysModules < h.objs.size) : ObjOk P w H (h.push { cls := .type "dict", data := .dict #[] }) h.objs.size (.dK []) :=
  ⟨Nat.zero_le _, beq_eq_false_iff_ne.mpr (Ne.symm (Nat.ne_of_lt hb)), [], .nil, Heap.DictOf.new h⟩
theorem dt_empty {P : Program} {w : World} {H : Hp} (h : Heap) (hb : sysModules < h.objs.size) : ObjOk P w H (h.push { cls := .type "dict", data := .dict #[] }) h.objs.size (.dT []) :=
  ⟨Nat.zero_le _, beq_eq_false_iff_ne.mpr (Ne.symm (Nat.ne_of_lt hb)), [], .nil, _, #[], 0, Heap.get?_push_size _ rfl, ⟨rfl, rfl, rfl⟩, rfl, rfl, List.nodup_nil⟩
def tDNewK : TE := fun _ H Q => ∀ p, H p = none → Q (.ref p) (upd H p (.dK []))
def tDNewT : TE := fun _ H Q => ∀ p, H p = none → Q (.ref p) (upd H p (.dT []))
section
variable {X : Cx} {pos : Pos}
theorem pe_dnewK : PE X (.Dict [] [] pos) tDNewK := fun pins s σ H Q I h =>
  wpAny_Dict_empty ⟨.ref s.heap.objs.size, _, I.laid (a := s.heap.objs.size) (o := .dK []) (t' := s.toks) (fun _ _ q => Heap.get?_push_of_some _ q) (Nat.le_refl _) (dk_empty s.heap I.big), rfl, h _ (I.hok.fresh (Nat.le_refl _))⟩
theorem pe_dnewT : PE X (.Dict [] [] pos) tDNewT := fun pins s σ H Q I h =>
  wpAny_Dict_empty ⟨.ref s.heap.objs.size, _, I.laid (a := s.heap.objs.size) (o := .dT []) (t' := s.toks) (fun _ _ q => Heap.get?_push_of_some _ q) (Nat.le_refl _) (dt_empty s.heap I.big), rfl, h _ (I.hok.fresh (Nat.le_refl _))⟩
end
def mergeK (kvs more : List (Key × V)) : List (Key × V) := more.foldl (fun acc kv => putK acc kv.1 kv.2) kvs
theorem KV.merge : ∀ {more : List (Key × V)} {rs : List (Key × Value)} {kvs : List (Key × V)} {vs : List (Key × Value)}, KV more rs → KV kvs vs → KV (mergeK kvs more) (merged vs rs) := by
  intro more rs kvs vs r
  unfold KV at r
  induction r generalizing kvs vs with
  | nil => intro q; exact q
  | @cons p q ps qs h t ih =>
    intro r0
    have e : KV (putK kvs p.1 p.2) (stored vs q.1 q.2) := by
      have := r0.put p.1 h.2
      rw [← h.1]; exact this
    exact ih e
structure M1 (X : Cx) (o : Expr) (m : Str) (apos : Pos) (e : Expr) (cpos : Pos) : Prop where
  base : attributeBase o m X.env (eval o X.env) = eval o X.env
  few : ((backTo cpos (starEach [e] X.env)).all (fun x => !x.1) && (backToKw cpos (keywordEach [] X.env)).all (fun x => x.1.isSome)
    && decide (([e] : List Expr).length + ([] : List Keyword).length + (if ([] : List Keyword).isEmpty then 0 else 1) < 30)) = true
  line : (apos.endLine == cpos.line) = true
  trees : backTo cpos (starEach [e] X.env) = [(false, eval e X.env)]
structure M2 (X : Cx) (o : Expr) (m : Str) (apos : Pos) (e f : Expr) (cpos : Pos) : Prop where
  base : attributeBase o m X.env (eval o X.env) = eval o X.env
  few : ((backTo cpos (starEach [e, f] X.env)).all (fun x => !x.1) && (backToKw cpos (keywordEach [] X.env)).all (fun x => x.1.isSome)
    && decide (([e, f] : List Expr).length + ([] : List Keyword).length + (if ([] : List Keyword).isEmpty then 0 else 1) < 30)) = true
  line : (apos.endLine == cpos.line) = true
  trees : backTo cpos (starEach [e, f] X.env) = [(false, eval e X.env), (false, eval f X.env)]
section
variable {X : Cx} {pins : List (Addr × Obj)} {σ : St} {H : Hp} {s : Shared} {a : Addr} {y d : V} {u r : Value} {o : Option V} {A : Around} {E : Value → Shared → Prop}
end
section
variable {X : Cx} {o e f : Expr} {apos cpos : Pos} {td ty tx : TE}
end
section
variable {X : Cx} {pins : List (Addr × Obj)} {σ : St} {H : Hp} {s : Shared} {a : Addr} {kvs : List (Key × V)} {A : Around} {E : Value → Shared → Prop}
end
section
variable {X : Cx} {pins : List (Addr × Obj)} {σ : St} {H : Hp} {s : Shared} {a : Addr} {y : V} {u : Value} {A : Around} {E : Value → Shared → Prop}
end
end L2
set_option maxRecDepth 100000
set_option maxHeartbeats 1000000
namespace LS
open PySem
def Lo (l : List Nat) (j r : Nat) : Prop := r ≤ l.length ∧ (∀ (k v : Nat), k < r → l[k]? = some v → v < j) ∧ ∀ (k v : Nat), r ≤ k → l[k]? = some v → j ≤ v
theorem below_go {xs : Array Nat} {j : Nat} (hp : xs.toList.Pairwise (· < ·)) : ∀ (fuel lo hi : Nat), lo ≤ hi → hi ≤ xs.size → hi - lo ≤ fuel →
    (∀ (k v : Nat), k < lo → xs.toList[k]? = some v → v < j) → (∀ (k v : Nat), hi ≤ k → xs.toList[k]? = some v → j ≤ v) → Lo xs.toList j (SetTable.below.go xs j fuel lo hi) := by
  intro fuel
  induction fuel with
  | zero =>
    intro lo hi h1 h2 h3 h4 h5
    unfold SetTable.below.go
    exact ⟨by simp; omega, h4, fun k v hk => h5 k v (by omega)⟩
  | succ fuel ih =>
    intro lo hi h1 h2 h3 h4 h5
    unfold SetTable.below.go
    by_cases c : lo < hi
    · rw [if_pos c]
      have hm : (lo + hi) / 2 < xs.size := by omega
      have eg : xs.toList[(lo + hi) / 2]? = some (xs.getD ((lo + hi) / 2) j) := by
        rw [Array.getD_eq_getD_getElem?, Array.getElem?_eq_getElem hm]
        simp [hm]
      have mono : ∀ (a b u v : Nat), a < b → xs.toList[a]? = some u → xs.toList[b]? = some v → u < v := fun a b u v hab ha hb => by
        obtain ⟨la, ea⟩ := List.getElem?_eq_some_iff.mp ha
        obtain ⟨lb, eb⟩ := List.getElem?_eq_some_iff.mp hb
        have := List.pairwise_iff_getElem.mp hp a b la lb hab
        rw [ea, eb] at this
        exact this
      dsimp only
      by_cases d : xs.getD ((lo + hi) / 2) j < j
      · rw [if_pos d]
        refine ih _ _ (by omega) h2 (by omega) (fun k v hk e => ?_) h5
        by_cases kk : k = (lo + hi) / 2
        · subst kk; rw [eg] at e; cases e; exact d
        · exact Nat.lt_trans (mono _ _ _ _ (by omega) e eg) d
      · rw [if_neg d]
        refine ih _ _ (by omega) (by omega) (by omega) h4 (fun k v hk e => ?_)
        by_cases kk : k = (lo + hi) / 2
        · subst kk; rw [eg] at e; cases e; omega
        · have := mono _ _ _ _ (show (lo + hi) / 2 < k by omega) eg e
          omega
    · rw [if_neg c]
      exact ⟨by simp; omega, h4, fun k v hk => h5 k v (by omega)⟩
theorem below_lo {xs : Array Nat} (hp : xs.toList.Pairwise (· < ·)) (j : Nat) : Lo xs.toList j (SetTable.below xs j) := by
  unfold SetTable.below
  refine below_go hp _ _ _ (Nat.zero_le _) (Nat.le_refl _) (by omega) (fun k v hk => absurd hk (by omega)) (fun k v hk e => ?_)
  have := (List.getElem?_eq_some_iff.mp e).1
  simp at this
  omega
theorem below_at {xs : Array Nat} (hp : xs.toList.Pairwise (· < ·)) {i j : Nat} (h : xs.toList[i]? = some j) : SetTable.below xs j = i := by
  obtain ⟨h1, h2, h3⟩ := below_lo hp j
  rcases Nat.lt_trichotomy (SetTable.below xs j) i with c | c | c
  · -- the one at r is at least j, the one at i above it
    obtain ⟨li, ei⟩ := List.getElem?_eq_some_iff.mp h
    have lr : SetTable.below xs j < xs.toList.length := by omega
    have := h3 _ _ (Nat.le_refl _) (List.getElem?_eq_getElem lr)
    have q := List.pairwise_iff_getElem.mp hp _ _ lr li c
    omega
  · exact c
  · exact absurd (h2 _ _ c h) (by omega)
theorem slot_live {t : SetTable} (hp : t.place.toList.Pairwise (· < ·)) {i j : Nat} (h : t.place.toList[i]? = some j) : t.slot j = .live i := by
  unfold SetTable.slot
  dsimp only
  rw [below_at hp h]
  have : t.place[i]? = some j := by rw [← h]; simp
  rw [this]
  simp
theorem slot_none {t : SetTable} (hd : t.dummies = #[]) {j : Nat} (h : j ∉ t.place.toList) : t.slot j = .empty := by
  unfold SetTable.slot
  dsimp only
  have a : (t.place[SetTable.below t.place j]? == some j) = false := by
    rw [Bool.eq_false_iff]
    intro e
    have e := eq_of_beq e
    exact h (List.mem_of_getElem? (i := SetTable.below t.place j) (by rw [← e]; simp))
  rw [a, hd]
  simp [SetTable.has]
theorem insertAt_list {α : Type} (xs : Array α) (p : Nat) (x : α) (hp : p ≤ xs.size) : (SetTable.insertAt xs p x).toList = xs.toList.take p ++ x :: xs.toList.drop p := by
  unfold SetTable.insertAt
  simp [Array.toList_extract]; exact List.take_of_length_le (by simp)
theorem pairwise_ins {l : List Nat} {j r : Nat} (hp : l.Pairwise (· < ·)) (lo : Lo l j r) (hj : j ∉ l) : (l.take r ++ j :: l.drop r).Pairwise (· < ·) := by
  obtain ⟨h1, h2, h3⟩ := lo
  have a : ∀ x ∈ l.take r, x < j := fun x hx => by
    obtain ⟨k, hk⟩ := List.getElem?_of_mem hx
    rw [List.getElem?_take] at hk
    split at hk
    · exact h2 k x (by assumption) hk
    · cases hk
  have b : ∀ x ∈ l.drop r, j < x := fun x hx => by
    obtain ⟨k, hk⟩ := List.getElem?_of_mem hx
    rw [List.getElem?_drop] at hk
    have := h3 _ x (by omega) hk
    rcases Nat.lt_or_eq_of_le this with z | z
    · exact z
    · exact absurd (by rw [z]; exact List.mem_of_getElem? hk) hj
  rw [List.pairwise_append]
  refine ⟨hp.sublist (List.take_sublist _ _), List.pairwise_cons.mpr ⟨fun x hx => b x hx, hp.sublist (List.drop_sublist _ _)⟩, fun x hx y hy => ?_⟩; rcases List.mem_cons.mp hy with rfl | hy
  · exact a x hx
  · exact Nat.lt_trans (a x hx) (b y hy)
def adv (mask : Nat) (p : SetTable.Probe) : SetTable.Probe := SetTable.advance { SetTable.fresh 0 0 false with mask := mask } p
def advs (mask : Nat) (p : SetTable.Probe) : Nat → SetTable.Probe
  | 0 => p
  | n + 1 => adv mask (advs mask p n)
theorem advs_add (mask : Nat) (p : SetTable.Probe) (n : Nat) : ∀ m, advs mask (advs mask p n) m = advs mask p (n + m)
  | 0 => rfl
  | m + 1 => by rw [advs, advs_add mask p n m]; rfl
theorem advs_run (mask : Nat) (p : SetTable.Probe) : ∀ n, n ≤ p.more → advs mask p n = { p with j := p.j + n, more := p.more - n }
  | 0, _ => rfl
  | n + 1, h => by
    rw [advs, advs_run mask p n (by omega)]
    unfold adv SetTable.advance; dsimp only
    rw [if_pos (show p.more - n > 0 by omega)]
    congr 1
def at0 (mask i pt : Nat) (d : Option Nat) : SetTable.Probe := { j := i, more := SetTable.runEnd mask i - i, i := i, perturb := pt, dummy := d }
theorem run9 (mask i : Nat) : SetTable.runEnd mask i - i ≤ 9 := by
  unfold SetTable.runEnd
  split <;> omega
def leaps (mask i pt : Nat) : Nat → Nat × Nat
  | 0 => (i, pt)
  | n + 1 => SetTable.leap mask (leaps mask i pt n).1 (leaps mask i pt n).2
theorem advs_leap (mask : Nat) (p : SetTable.Probe) : advs mask p (p.more + 1) = at0 mask (SetTable.leap mask p.i p.perturb).1 (SetTable.leap mask p.i p.perturb).2 p.dummy := by
  rw [advs, advs_run mask p p.more (Nat.le_refl _)]
  unfold adv SetTable.advance; dsimp only
  rw [if_neg (by simp)]
  rfl
theorem advs_leaps (mask : Nat) (p : SetTable.Probe) (hm : p.more ≤ 9) : ∀ n, ∃ k, k ≤ 10 * (n + 1) ∧ advs mask p k = at0 mask (leaps mask p.i p.perturb (n + 1)).1 (leaps mask p.i p.perturb (n + 1)).2 p.dummy
  | 0 => ⟨p.more + 1, by omega, advs_leap mask p⟩
  | n + 1 => by
    obtain ⟨k, hk, e⟩ := advs_leaps mask p hm n
    generalize hl : leaps mask p.i p.perturb (n + 1) = l at e
    have := advs_leap mask (at0 mask l.1 l.2 p.dummy)
    refine ⟨k + ((at0 mask l.1 l.2 p.dummy).more + 1), ?_, ?_⟩
    · have := run9 mask l.1
      show k + (SetTable.runEnd mask l.1 - l.1 + 1) ≤ _
      omega
    · rw [← advs_add, e, this, leaps, hl]
      rfl
theorem leaps_pt (mask i pt : Nat) : ∀ n, (leaps mask i pt n).2 = pt / 32 ^ n
  | 0 => by simp [leaps]
  | n + 1 => by
    rw [leaps]
    show (leaps mask i pt n).2 / 32 = _
    rw [leaps_pt mask i pt n, Nat.div_div_eq_div_mul, Nat.pow_succ]
theorem leaps_zero (mask i pt : Nat) (h : pt < 2 ^ 64) {n : Nat} (hn : 13 ≤ n) : (leaps mask i pt n).2 = 0 := by
  rw [leaps_pt]
  refine Nat.div_eq_of_lt (Nat.lt_of_lt_of_le h ?_)
  exact Nat.le_trans (show 2 ^ 64 ≤ 32 ^ 13 by decide) (Nat.pow_le_pow_right (by decide) hn)
def cyc (N i : Nat) : Nat → Nat
  | 0 => i
  | n + 1 => (cyc N i n * 5 + 1) % N
theorem cyc_add (N i n : Nat) : ∀ m, cyc N (cyc N i n) m = cyc N i (n + m)
  | 0 => rfl
  | m + 1 => by rw [cyc, cyc_add N i n m]; rfl
theorem leaps_cyc (mask i pt : Nat) (h : pt < 2 ^ 64) : ∀ n, (leaps mask i pt (13 + n)).1 = cyc (mask + 1) (leaps mask i pt 13).1 n
  | 0 => rfl
  | n + 1 => by
    rw [show 13 + (n + 1) = (13 + n) + 1 by omega, leaps, cyc, ← leaps_cyc mask i pt h n]
    show (_ * 5 + 1 + (leaps mask i pt (13 + n)).2 / 32) % (mask + 1) = _
    rw [leaps_zero mask i pt h (by omega)]
def OkMask (m : Nat) : Prop := m = 7 ∨ m = 15 ∨ m = 31 ∨ m = 63 ∨ m = 127
def orbit (N : Nat) : Nat → Nat → List Nat
  | 0, _ => []
  | n + 1, i => i :: orbit N n ((i * 5 + 1) % N)
def orbChk (N : Nat) : Bool := ((List.range N).all fun j => (orbit N N 0).contains j) && (cyc N 0 N == 0)
theorem orb_all : orbChk 8 = true ∧ orbChk 16 = true ∧ orbChk 32 = true ∧ orbChk 64 = true ∧ orbChk 128 = true := by decide +kernel
theorem orbit_get (N : Nat) : ∀ (n i k v : Nat), (orbit N n i)[k]? = some v → k < n ∧ v = cyc N i k
  | 0, i, k, v, h => by simp [orbit] at h
  | n + 1, i, 0, v, h => by simp [orbit] at h; exact ⟨by omega, h.symm⟩
  | n + 1, i, k + 1, v, h => by
    simp [orbit] at h
    obtain ⟨h1, h2⟩ := orbit_get N n _ k v h
    refine ⟨by omega, ?_⟩
    rw [h2, show (i * 5 + 1) % N = cyc N i 1 from rfl, cyc_add]
    congr 1
    omega
theorem OkMask.orb {m : Nat} (h : OkMask m) : orbChk (m + 1) = true := by
  obtain ⟨a, b, c, d, e⟩ := orb_all
  rcases h with rfl | rfl | rfl | rfl | rfl <;> assumption
theorem cyc_cover {m : Nat} (h : OkMask m) {i j : Nat} (hi : i ≤ m) (hj : j ≤ m) : ∃ n, n ≤ m ∧ cyc (m + 1) i n = j := by
  have o := h.orb
  unfold orbChk at o
  rw [Bool.and_eq_true] at o
  have fnd : ∀ x, x ≤ m → ∃ a, a < m + 1 ∧ x = cyc (m + 1) 0 a := fun x hx => by
    have := List.all_eq_true.mp o.1 x (List.mem_range.mpr (by omega))
    rw [List.contains_iff_mem] at this
    obtain ⟨a, ha⟩ := List.getElem?_of_mem this
    exact ⟨a, orbit_get _ _ _ _ _ ha⟩
  obtain ⟨a, ha, ea⟩ := fnd i hi
  obtain ⟨b, hb, eb⟩ := fnd j hj
  by_cases c : a ≤ b
  · exact ⟨b - a, by omega, by rw [ea, cyc_add, eb]; congr 1; omega⟩
  · refine ⟨m + 1 - a + b, by omega, ?_⟩
    rw [ea, cyc_add, show a + (m + 1 - a + b) = (m + 1) + b by omega, ← cyc_add, eq_of_beq o.2, eb]
theorem cover {m : Nat} (hm : OkMask m) {p : SetTable.Probe} (h9 : p.more ≤ 9) (hp : p.perturb < 2 ^ 64) {j : Nat} (hj : j ≤ m) : ∃ n, n < 10 * SetTable.turns m ∧ (advs m p n).j = j := by
  have hi : (leaps m p.i p.perturb 13).1 ≤ m := by
    have : ∀ n, (leaps m p.i p.perturb (n + 1)).1 ≤ m := fun n => Nat.le_of_lt_succ (Nat.mod_lt _ (by omega))
    exact this 12
  obtain ⟨n, hn, e⟩ := cyc_cover hm hi hj
  obtain ⟨k, hk, ek⟩ := advs_leaps m p h9 (12 + n)
  refine ⟨k, ?_, ?_⟩
  · unfold SetTable.turns
    omega
  · rw [ek]
    show (leaps m p.i p.perturb (12 + n + 1)).1 = j
    rw [show 12 + n + 1 = 13 + n by omega, leaps_cyc m _ _ hp, e]
theorem nodup_len : ∀ {l m : List Nat}, l.Nodup → (∀ x ∈ l, x ∈ m) → l.length ≤ m.length
  | [], m, _, _ => Nat.zero_le _
  | x :: l, m, hn, hs => by
    rw [List.nodup_cons] at hn
    have hx := hs x (by simp)
    have := nodup_len (l := l) (m := m.erase x) hn.2 fun y hy => (List.mem_erase_of_ne (fun e => hn.1 (by rw [← e]; exact hy))).mpr (hs y (by simp [hy]))
    rw [List.length_erase_of_mem hx] at this
    have := List.length_pos_of_mem hx
    simp only [List.length_cons]
    omega
def start (mask : Nat) (h : Int) : SetTable.Probe := at0 mask (SetTable.bits h % (mask + 1)) (SetTable.bits h) none
def pos (mask : Nat) (h : Int) (n : Nat) : SetTable.Probe := advs mask (start mask h) n
structure Good (p : SetTable.Probe) : Prop where
  more : p.more ≤ 9
  pt : p.perturb < 2 ^ 64
  dum : p.dummy = none
theorem Good.adv {mask : Nat} {p : SetTable.Probe} (g : Good p) : Good (adv mask p) := by
  unfold LS.adv SetTable.advance; dsimp only
  split
  · exact ⟨by have := g.more; show p.more - 1 ≤ 9; omega, g.pt, g.dum⟩
  · exact ⟨run9 _ _, Nat.lt_of_le_of_lt (Nat.div_le_self _ _) g.pt, g.dum⟩
theorem good (mask : Nat) (h : Int) : ∀ n, Good (pos mask h n)
  | 0 => ⟨run9 _ _, by
      show SetTable.bits h < _
      unfold SetTable.bits
      have := Int.emod_lt_of_pos h (show (0 : Int) < 2 ^ 64 by decide)
      have := Int.emod_nonneg h (show (2 ^ 64 : Int) ≠ 0 by decide)
      omega, rfl⟩
  | n + 1 => (good mask h n).adv
def Way (mask : Nat) (l : List Nat) (h : Int) (j : Nat) : Prop := ∃ n, (pos mask h n).j = j ∧ ∀ k, k < n → (pos mask h k).j ∈ l
theorem Way.more {mask : Nat} {l l' : List Nat} {h : Int} {j : Nat} (x : Way mask l h j) (s : ∀ y ∈ l, y ∈ l') : Way mask l' h j := let ⟨n, a, b⟩ := x; ⟨n, a, fun k hk => s _ (b k hk)⟩
structure Tab (t : SetTable) (hs : List Int) : Prop where
  mask : OkMask t.mask
  dum : t.dummies = #[]
  pw : t.place.toList.Pairwise (· < ·)
  le : ∀ j ∈ t.place.toList, j ≤ t.mask
  len : t.place.toList.length = hs.length
  room : hs.length ≤ t.mask
  way : ∀ (i j : Nat) (h : Int), hs[i]? = some h → t.place.toList[i]? = some j → Way t.mask t.place.toList h j
theorem Tab.nd {t : SetTable} {hs : List Int} (T : Tab t hs) : t.place.toList.Nodup := T.pw.imp fun h => Nat.ne_of_lt h
theorem Tab.free {t : SetTable} {hs : List Int} (T : Tab t hs) : ∃ j, j ≤ t.mask ∧ j ∉ t.place.toList := by
  apply Classical.byContradiction
  intro no
  have all : ∀ x ∈ List.range (t.mask + 1), x ∈ t.place.toList := fun x hx => by
    have := List.mem_range.mp hx
    exact Classical.byContradiction fun n => no ⟨x, by omega, n⟩
  have := nodup_len List.nodup_range all
  rw [List.length_range, T.len] at this
  have := T.room
  omega
theorem Tab.first {t : SetTable} {hs : List Int} (T : Tab t hs) (h : Int) : ∃ e, e < 1420 ∧ (pos t.mask h e).j ∉ t.place.toList ∧ ∀ k, k < e → (pos t.mask h k).j ∈ t.place.toList := by
  obtain ⟨j, hj, hf⟩ := T.free
  obtain ⟨n, hn, e⟩ := cover T.mask (good t.mask h 0).more (good t.mask h 0).pt hj
  have hb : 10 * SetTable.turns t.mask ≤ 1420 := by
    unfold SetTable.turns
    rcases T.mask with z | z | z | z | z <;> omega
  have ex : ∃ n, (pos t.mask h n).j ∉ t.place.toList := ⟨n, by rw [show (pos t.mask h n).j = j from e]; exact hf⟩
  have key : ∀ n, (pos t.mask h n).j ∉ t.place.toList → ∃ e, e ≤ n ∧ (pos t.mask h e).j ∉ t.place.toList ∧ ∀ k, k < e → (pos t.mask h k).j ∈ t.place.toList := by
    intro n
    induction n using Nat.strongRecOn with
    | _ n ih =>
      intro hn
      by_cases c : ∃ k, k < n ∧ (pos t.mask h k).j ∉ t.place.toList
      · obtain ⟨k, hk, hk'⟩ := c
        obtain ⟨e, he, r⟩ := ih k hk hk'
        exact ⟨e, by omega, r⟩
      · exact ⟨n, Nat.le_refl _, hn, fun k hk => Classical.byContradiction fun z => c ⟨k, hk, z⟩⟩
  obtain ⟨e', he', r⟩ := key n (by rw [show (pos t.mask h n).j = j from e]; exact hf)
  exact ⟨e', by omega, r⟩
theorem Tab.go {t : SetTable} {hs : List Int} (T : Tab t hs) {hashAt : Nat → Int} {h : Int} : ∀ (fuel n m : Nat), m < fuel → (pos t.mask h (n + m)).j ∉ t.place.toList →
    ∃ n1, n ≤ n1 ∧ (∀ k, n ≤ k → k < n1 → ∃ i : Nat, t.place.toList[i]? = some (pos t.mask h k).j ∧ hashAt i ≠ h) ∧
      (((pos t.mask h n1).j ∉ t.place.toList ∧ SetTable.probe.go t hashAt h fuel (pos t.mask h n) = some (.empty (pos t.mask h n1).j none)) ∨
        ∃ i : Nat, t.place.toList[i]? = some (pos t.mask h n1).j ∧ hashAt i = h ∧ SetTable.probe.go t hashAt h fuel (pos t.mask h n) = some (.candidate (pos t.mask h n1).j i (pos t.mask h (n1 + 1)))) := by
  intro fuel
  induction fuel with
  | zero => intro n m hm; omega
  | succ fuel ih =>
    intro n m hm hf
    unfold SetTable.probe.go
    by_cases c : (pos t.mask h n).j ∈ t.place.toList
    · obtain ⟨i, hi⟩ := List.getElem?_of_mem c
      rw [slot_live T.pw hi]
      dsimp only
      by_cases d : (hashAt i == h) = true
      · rw [if_pos d]
        exact ⟨n, Nat.le_refl _, fun k h1 h2 => by omega, .inr ⟨i, hi, eq_of_beq d, rfl⟩⟩
      · rw [if_neg d]
        cases m with
        | zero => exact absurd c hf
        | succ m =>
          obtain ⟨n1, h1, h2, h3⟩ := ih (n + 1) m (by omega) (by rw [show n + 1 + m = n + (m + 1) by omega]; exact hf)
          refine ⟨n1, by omega, fun k a b => ?_, h3⟩
          by_cases e : k = n
          · subst e; exact ⟨i, hi, fun z => d (by rw [z]; simp)⟩
          · exact h2 k (by omega) b
    · rw [slot_none T.dum c]
      refine ⟨n, Nat.le_refl _, fun k h1 h2 => by omega, .inl ⟨c, ?_⟩⟩
      dsimp only
      rw [(good t.mask h n).dum]
theorem Tab.probe {t : SetTable} {hs : List Int} (T : Tab t hs) (hashAt : Nat → Int) (h : Int) (n : Nat) :
    ∃ n1, n ≤ n1 ∧ (∀ k, n ≤ k → k < n1 → ∃ i : Nat, t.place.toList[i]? = some (pos t.mask h k).j ∧ hashAt i ≠ h) ∧
      (((pos t.mask h n1).j ∉ t.place.toList ∧ t.probe hashAt h (pos t.mask h n) = some (.empty (pos t.mask h n1).j none)) ∨
        ∃ i : Nat, t.place.toList[i]? = some (pos t.mask h n1).j ∧ hashAt i = h ∧ t.probe hashAt h (pos t.mask h n) = some (.candidate (pos t.mask h n1).j i (pos t.mask h (n1 + 1)))) := by
  obtain ⟨j, hj, hf⟩ := T.free
  obtain ⟨m, hm, e⟩ := cover T.mask (good t.mask h n).more (good t.mask h n).pt hj
  refine T.go _ n m hm ?_
  rw [show (pos t.mask h (n + m)).j = j by rw [← e]; unfold pos; rw [advs_add]]
  exact hf
theorem Tab.put {t : SetTable} {hs : List Int} (T : Tab t hs) {h : Int} {j : Nat} (hj : j ∉ t.place.toList) (hl : j ≤ t.mask) (w : Way t.mask t.place.toList h j) (hr : hs.length + 1 ≤ t.mask) :
    ∃ p, p ≤ hs.length ∧ (t.put j).2 = p ∧ Tab (t.put j).1 (hs.take p ++ h :: hs.drop p) := by
  have lo := below_lo T.pw j
  have hp : SetTable.below t.place j ≤ t.place.toList.length := lo.1
  have ep : (t.put j).1.place.toList = t.place.toList.take (SetTable.below t.place j) ++ j :: t.place.toList.drop (SetTable.below t.place j) := insertAt_list _ _ _ (by simpa using hp)
  have sub : ∀ y ∈ t.place.toList, y ∈ (t.put j).1.place.toList := fun y hy => by
    rw [ep]
    rw [← List.take_append_drop (SetTable.below t.place j) t.place.toList] at hy
    rcases List.mem_append.mp hy with z | z
    · exact List.mem_append.mpr (.inl z)
    · exact List.mem_append_right _ (by simp [z])
  refine ⟨SetTable.below t.place j, by rw [← T.len]; exact hp, rfl, ?_⟩
  generalize hpp : SetTable.below t.place j = p at *
  have hlen : p ≤ hs.length := by rw [← T.len]; exact hp
  have hsz : t.place.size = t.place.toList.length := by simp
  refine ⟨T.mask, ?_, by rw [ep]; exact pairwise_ins T.pw lo hj, ?_, ?_, ?_, ?_⟩
  · show (if SetTable.has t.dummies j = true then _ else t.dummies) = #[]
    rw [T.dum]
    simp [SetTable.has]
  · intro y hy
    rw [ep] at hy
    rcases List.mem_append.mp hy with z | z
    · exact T.le y (List.mem_of_mem_take z)
    · rcases List.mem_cons.mp z with rfl | z
      · exact hl
      · exact T.le y (List.mem_of_mem_drop z)
  · rw [ep]
    have := T.len
    simp at this ⊢
    omega
  · show _ ≤ t.mask
    simp
    omega
  · intro i j' h' e1 e2
    show Way t.mask _ h' j'
    rw [ep] at e2
    by_cases c : i < p
    · rw [List.getElem?_append_left (by simp; omega), List.getElem?_take_of_lt c] at e1
      rw [List.getElem?_append_left (by simp; omega), List.getElem?_take_of_lt c] at e2
      exact (T.way i j' h' e1 e2).more sub
    · rw [List.getElem?_append_right (by simp; omega)] at e1 e2
      have l1 : (hs.take p).length = p := by simp; omega
      have l2 : (t.place.toList.take p).length = p := by simp; omega
      rw [l1] at e1
      rw [l2] at e2
      by_cases d : i = p
      · subst d
        rw [Nat.sub_self] at e1 e2
        simp at e1 e2
        subst e1 e2
        exact w.more sub
      · obtain ⟨q, hq⟩ : ∃ q, i - p = q + 1 := ⟨i - p - 1, by omega⟩
        rw [hq, List.getElem?_cons_succ, List.getElem?_drop] at e1 e2
        exact (T.way _ j' h' e1 e2).more sub
theorem Tab.fresh (f m : Nat) (led : Bool) : Tab (SetTable.fresh f m led) [] :=
  ⟨.inl rfl, rfl, List.Pairwise.nil, fun j hj => by simp [SetTable.fresh] at hj, rfl, Nat.zero_le _, fun i j h e => by simp at e⟩
end LS
set_option maxRecDepth 100000
set_option maxHeartbeats 1000000
namespace LS
open PySem
def occ (mask : Nat) (owner : Array (Option Nat)) : List Nat := (List.range (mask + 1)).filter fun j => (owner.getD j none).isSome
theorem mem_occ {mask : Nat} {owner : Array (Option Nat)} {j : Nat} : j ∈ occ mask owner ↔ j ≤ mask ∧ ∃ k, owner[j]? = some (some k) := by
  unfold occ
  rw [List.mem_filter, List.mem_range, Array.getD_eq_getD_getElem?]
  constructor
  · rintro ⟨h1, h2⟩
    refine ⟨by omega, ?_⟩
    cases e : owner[j]? with
    | none => rw [e] at h2; simp at h2
    | some o =>
      cases o with
      | none => rw [e] at h2; simp at h2
      | some k => exact ⟨k, rfl⟩
  · rintro ⟨h1, k, e⟩
    rw [e]
    exact ⟨by omega, rfl⟩
theorem runEnd_le {mask i : Nat} (h : i ≤ mask) : SetTable.runEnd mask i ≤ mask := by
  unfold SetTable.runEnd
  split <;> omega
theorem runEnd_ge (mask i : Nat) : i ≤ SetTable.runEnd mask i := by
  unfold SetTable.runEnd
  split <;> omega
theorem pos_le {mask : Nat} (hm : OkMask mask) (h : Int) (n : Nat) : (pos mask h n).j ≤ mask := by
  have key : ∀ n, (pos mask h n).j + (pos mask h n).more ≤ mask := by
    intro n
    have st : ∀ i, i ≤ mask → i + (SetTable.runEnd mask i - i) ≤ mask := fun i hi => by
      have := runEnd_le hi
      have := runEnd_ge mask i
      omega
    induction n with
    | zero => exact st _ (Nat.le_of_lt_succ (Nat.mod_lt _ (by omega)))
    | succ n ih =>
      show (adv mask (pos mask h n)).j + (adv mask (pos mask h n)).more ≤ mask
      generalize pos mask h n = p at ih ⊢
      unfold adv SetTable.advance; dsimp only
      split
      · show p.j + 1 + (p.more - 1) ≤ mask
        omega
      · exact st _ (Nat.le_of_lt_succ (Nat.mod_lt _ (by omega)))
  have := key n
  omega
theorem free_go {mask : Nat} {owner : Array (Option Nat)} (hz : owner.size = mask + 1) (h : Int) : ∀ (fuel L n0 i pt : Nat), L < fuel → i ≤ mask → pos mask h n0 = at0 mask i pt none → (∀ k, k < n0 → (pos mask h k).j ∈ occ mask owner) →
    (leaps mask i pt L).1 ∉ occ mask owner → ∃ j, SetTable.layClean.free mask owner fuel i pt = some j ∧ j ≤ mask ∧ j ∉ occ mask owner ∧ Way mask (occ mask owner) h j := by
  intro fuel
  induction fuel with
  | zero => intro L n0 i pt hL; omega
  | succ fuel ih =>
    intro L n0 i pt hL hi hp hw hf
    unfold SetTable.layClean.free
    have hre := runEnd_le hi
    have hrg := runEnd_ge mask i
    have run : ∀ k, k ≤ SetTable.runEnd mask i - i → (pos mask h (n0 + k)).j = i + k := fun k hk => by
      have : pos mask h (n0 + k) = advs mask (pos mask h n0) k := by unfold pos; rw [advs_add]
      rw [this, hp, advs_run _ _ _ (by exact hk)]
      rfl
    have isocc : ∀ k, k ≤ SetTable.runEnd mask i - i → (owner.getD (i + k) (some 0)).isNone = false → i + k ∈ occ mask owner := fun k hk e => by
      refine mem_occ.mpr ⟨by omega, ?_⟩
      rw [Array.getD_eq_getD_getElem?] at e; have hb : i + k < owner.size := by omega
      rw [Array.getElem?_eq_getElem hb] at e ⊢
      cases e2 : owner[i + k] with
      | none => rw [e2] at e; simp at e
      | some v => exact ⟨v, rfl⟩
    cases e : (List.range (SetTable.runEnd mask i + 1 - i)).find? fun k => (owner.getD (i + k) (some 0)).isNone with
    | some k =>
      dsimp only
      obtain ⟨h1, h2, h3⟩ := List.find?_range_eq_some.mp e
      rw [List.mem_range] at h2
      refine ⟨i + k, rfl, by omega, ?_, n0 + k, run k (by omega), fun k' hk' => ?_⟩
      · intro m
        obtain ⟨_, v, ev⟩ := mem_occ.mp m
        rw [Array.getD_eq_getD_getElem?, ev] at h1
        simp at h1
      · by_cases c : k' < n0
        · exact hw k' c
        · obtain ⟨q, rfl⟩ : ∃ q, k' = n0 + q := ⟨k' - n0, by omega⟩
          rw [run q (by omega)]
          refine isocc q (by omega) ?_
          have := h3 q (by omega)
          simpa using this
    | none =>
      dsimp only
      have all : ∀ k, k ≤ SetTable.runEnd mask i - i → i + k ∈ occ mask owner := fun k hk => by
        refine isocc k hk ?_
        have := List.find?_eq_none.mp e k (List.mem_range.mpr (by omega))
        exact Bool.eq_false_iff.mpr this
      cases L with
      | zero => exact absurd (all 0 (by omega)) (by simpa [leaps] using hf)
      | succ L =>
        have step : pos mask h (n0 + (SetTable.runEnd mask i - i + 1)) = at0 mask (SetTable.leap mask i pt).1 (SetTable.leap mask i pt).2 none := by
          have : pos mask h (n0 + (SetTable.runEnd mask i - i + 1)) = advs mask (pos mask h n0) (SetTable.runEnd mask i - i + 1) := by unfold pos; rw [advs_add]
          rw [this, hp]
          exact advs_leap mask (at0 mask i pt none)
        refine ih L _ (SetTable.leap mask i pt).1 (SetTable.leap mask i pt).2 (by omega) (Nat.le_of_lt_succ (Nat.mod_lt _ (by omega))) step (fun k hk => ?_) ?_
        · by_cases c : k < n0
          · exact hw k c
          · obtain ⟨q, rfl⟩ : ∃ q, k = n0 + q := ⟨k - n0, by omega⟩
            rw [run q (by omega)]
            exact all q (by omega)
        · have sh : ∀ n, leaps mask (SetTable.leap mask i pt).1 (SetTable.leap mask i pt).2 n = leaps mask i pt (n + 1) := by
            intro n
            induction n with
            | zero => rfl
            | succ n ihn => rw [leaps, ihn]; rfl
          rw [sh]
          exact hf
theorem free_at {mask : Nat} (hm : OkMask mask) {owner : Array (Option Nat)} (hz : owner.size = mask + 1) (h : Int) {f : Nat} (hf : f ≤ mask) (hfo : f ∉ occ mask owner) :
    ∃ j, SetTable.layClean.free mask owner (SetTable.turns mask) (SetTable.bits h % (mask + 1)) (SetTable.bits h) = some j ∧ j ≤ mask ∧ j ∉ occ mask owner ∧ Way mask (occ mask owner) h j := by
  have g := good mask h 0
  have hi : (leaps mask (SetTable.bits h % (mask + 1)) (SetTable.bits h) 13).1 ≤ mask := Nat.le_of_lt_succ (Nat.mod_lt _ (by omega))
  obtain ⟨n, hn, e⟩ := cyc_cover hm hi hf
  refine free_go hz h _ (13 + n) 0 _ _ (by unfold SetTable.turns; omega) (Nat.le_of_lt_succ (Nat.mod_lt _ (by omega))) rfl (fun k hk => by omega) ?_
  rw [leaps_cyc mask _ _ (show SetTable.bits h < 2 ^ 64 from g.pt), e]
  exact hfo
structure Own (mask : Nat) (hs : List Int) (owner : Array (Option Nat)) : Prop where
  sz : owner.size = mask + 1
  lt : ∀ (j k : Nat), owner[j]? = some (some k) → k < hs.length
  inj : ∀ (j j' k : Nat), owner[j]? = some (some k) → owner[j']? = some (some k) → j = j'
  at_ : ∀ (k : Nat) (h : Int), hs[k]? = some h → ∃ j, owner[j]? = some (some k) ∧ Way mask (occ mask owner) h j
theorem Own.free {mask : Nat} {hs : List Int} {owner : Array (Option Nat)} (O : Own mask hs owner) (hl : hs.length ≤ mask) : ∃ f, f ≤ mask ∧ f ∉ occ mask owner := by
  apply Classical.byContradiction
  intro no
  have all : ∀ j, j ≤ mask → ∃ k, owner[j]? = some (some k) := fun j hj => by
    have : j ∈ occ mask owner := Classical.byContradiction fun n => no ⟨j, hj, n⟩
    exact (mem_occ.mp this).2
  have nd : ((List.range (mask + 1)).map fun j => (owner.getD j none).getD 0).Nodup := by
    rw [List.nodup_iff_pairwise_ne, List.pairwise_map]
    refine List.Pairwise.imp_of_mem (R := (· < ·)) (fun {a b} ha hb hab => ?_) List.pairwise_lt_range
    rw [List.mem_range] at ha hb
    obtain ⟨k, hk⟩ := all a (by omega)
    obtain ⟨k', hk'⟩ := all b (by omega)
    rw [Array.getD_eq_getD_getElem?, Array.getD_eq_getD_getElem?, hk, hk']
    intro e
    have e : k = k' := e
    subst e
    have := O.inj _ _ _ hk hk'
    omega
  have := nodup_len (m := List.range hs.length) nd fun x hx => by
    obtain ⟨j, hj, e⟩ := List.mem_map.mp hx
    rw [List.mem_range] at hj
    obtain ⟨k, hk⟩ := all j (by omega)
    rw [Array.getD_eq_getD_getElem?, hk] at e
    have e : k = x := e
    subst e
    exact List.mem_range.mpr (O.lt j k hk)
  simp at this
  omega
theorem Own.step {mask : Nat} (hm : OkMask mask) {hs : List Int} {owner : Array (Option Nat)} (O : Own mask hs owner) (hl : hs.length ≤ mask) (h : Int) :
    ∃ j, SetTable.layClean.free mask owner (SetTable.turns mask) (SetTable.bits h % (mask + 1)) (SetTable.bits h) = some j ∧ Own mask (hs ++ [h]) (owner.setIfInBounds j (some hs.length)) := by
  obtain ⟨f, hf, hfo⟩ := O.free hl
  obtain ⟨j, e, hj, hjo, w⟩ := free_at hm O.sz h hf hfo
  have hb : j < owner.size := by rw [O.sz]; omega
  have get : ∀ i, (owner.setIfInBounds j (some hs.length))[i]? = if i = j then some (some hs.length) else owner[i]? := fun i => by
    rw [Array.getElem?_setIfInBounds]; by_cases c : j = i
    · subst c; rw [if_pos rfl, if_pos rfl, if_pos hb]
    · rw [if_neg c, if_neg (fun z => c z.symm)]
  have more : ∀ y ∈ occ mask owner, y ∈ occ mask (owner.setIfInBounds j (some hs.length)) := fun y hy => by
    obtain ⟨h1, k, hk⟩ := mem_occ.mp hy
    refine mem_occ.mpr ⟨h1, ?_⟩
    rw [get]
    split
    · exact ⟨_, rfl⟩
    · exact ⟨k, hk⟩
  refine ⟨j, e, ⟨by simp [O.sz], fun i k q => ?_, fun i i' k q q' => ?_, fun k h' q => ?_⟩⟩
  · rw [get] at q
    rw [List.length_append]
    split at q
    · cases q; simp
    · have := O.lt i k q; omega
  · rw [get] at q q'
    split at q <;> split at q'
    · omega
    · cases q; have := O.lt _ _ q'; omega
    · cases q'; have := O.lt _ _ q; omega
    · exact O.inj _ _ _ q q'
  · by_cases c : k < hs.length
    · rw [List.getElem?_append_left c] at q
      obtain ⟨i, hi, wi⟩ := O.at_ k h' q
      refine ⟨i, ?_, wi.more more⟩
      rw [get, if_neg ?_]
      · exact hi
      · rintro rfl
        exact hjo (mem_occ.mpr ⟨hj, _, hi⟩)
    · rw [List.getElem?_append_right (by omega)] at q
      have : k - hs.length = 0 := by
        have := (List.getElem?_eq_some_iff.mp q).1
        simp at this
        omega
      rw [this] at q
      have q : h = h' := by simpa using q
      subst q
      have : k = hs.length := by omega
      subst this
      exact ⟨j, by rw [get, if_pos rfl], w.more more⟩
theorem perm_of : ∀ {l m : List Nat}, l.Nodup → m.Nodup → (∀ x, x ∈ l ↔ x ∈ m) → l.Perm m
  | [], m, _, _, h => by
    cases m with
    | nil => exact .nil
    | cons x r => exact absurd ((h x).mpr (by simp)) (by simp)
  | x :: l, m, hl, hm, h => by
    have hx : x ∈ m := (h x).mp (by simp)
    rw [List.nodup_cons] at hl
    refine List.Perm.trans (.cons x (perm_of hl.2 (hm.erase x) fun y => ?_)) (List.perm_cons_erase hx).symm
    constructor
    · intro hy
      exact (List.mem_erase_of_ne (fun e => hl.1 (by rw [← e]; exact hy))).mpr ((h y).mp (by simp [hy]))
    · intro hy
      have hne : y ≠ x := fun e => by subst e; exact (hm.not_mem_erase) hy
      have := (h y).mpr (List.mem_of_mem_erase hy)
      simpa [hne] using this
theorem range_all {α : Type} : ∀ l : List α, (List.range l.length).filterMap (fun k => l[k]?) = l
  | [] => rfl
  | a :: l => by
    rw [List.length_cons, List.range_succ_eq_map, List.filterMap_cons]
    simp only [List.getElem?_cons_zero, List.filterMap_map]
    have : ((fun k => (a :: l)[k]?) ∘ Nat.succ) = fun k => l[k]? := by funext k; simp
    rw [this, range_all l]
def layF (mask : Nat) (acc : Option (Array (Option Nat) × Nat)) (h : Int) : Option (Array (Option Nat) × Nat) := do
  let (owner, k) ← acc
  let j ← SetTable.layClean.free mask owner (SetTable.turns mask) (SetTable.bits h % (mask + 1)) (SetTable.bits h)
  pure (owner.setIfInBounds j (some k), k + 1)
theorem lay_fold {mask : Nat} (hm : OkMask mask) : ∀ (todo done : List Int) (owner : Array (Option Nat)), Own mask done owner → (done ++ todo).length ≤ mask + 1 →
    ∃ o, todo.foldl (layF mask) (some (owner, done.length)) = some (o, (done ++ todo).length) ∧ Own mask (done ++ todo) o
  | [], done, owner, O, _ => ⟨owner, by simp, by simpa using O⟩
  | h :: todo, done, owner, O, hl => by
    simp only [List.length_append, List.length_cons] at hl
    obtain ⟨j, e, O'⟩ := O.step hm (by omega) h
    obtain ⟨o, e2, O2⟩ := lay_fold hm todo (done ++ [h]) _ O' (by simp; omega)
    refine ⟨o, ?_, by simpa using O2⟩
    rw [List.foldl_cons]
    have : layF mask (some (owner, done.length)) h = some (owner.setIfInBounds j (some done.length), (done ++ [h]).length) := by
      unfold layF
      simp [e]
    rw [this, e2]
    simp
theorem own_nil (mask : Nat) : Own mask [] (Array.replicate (mask + 1) none) := by
  have no : ∀ j k, (Array.replicate (mask + 1) (none : Option Nat))[j]? ≠ some (some k) := fun j k e => by
    rw [Array.getElem?_replicate] at e
    split at e <;> cases e
  exact ⟨by simp, fun j k e => absurd e (no j k), fun j j' k e => absurd e (no j k), fun k h e => by simp at e⟩
theorem layClean_ok {mask : Nat} (hm : OkMask mask) (hs : Array Int) (hl : hs.size ≤ mask) : ∃ o, SetTable.layClean mask hs = some o ∧ Own mask hs.toList o := by
  obtain ⟨o, e, O⟩ := lay_fold hm hs.toList [] _ (own_nil mask) (by simp; omega)
  refine ⟨o, ?_, by simpa using O⟩
  unfold SetTable.layClean
  rw [← Array.foldl_toList]
  rw [show (hs.toList.foldl _ (some (Array.replicate (mask + 1) none, 0))) = some (o, ([] ++ hs.toList).length) from e]
  rfl
theorem laid_ok {α : Type} {mask : Nat} (hm : OkMask mask) (es : Array (Int × α)) (hl : es.size ≤ mask) (f mv : Nat) (led plain : Bool) :
    ∃ t order, SetTable.laid mask f mv led plain (es.map (·.1)) = some (t, order) ∧ t.mask = mask ∧ t.led = led ∧ t.plain = plain ∧ t.finger = f ∧ t.moves = mv ∧
      (order.filterMap (fun k => es[k]?)).toList.Perm es.toList ∧ Tab t ((order.filterMap (fun k => es[k]?)).toList.map (·.1)) := by
  obtain ⟨o, e, O⟩ := layClean_ok hm (es.map (·.1)) (by simpa using hl)
  have hlen : (es.map (·.1)).toList.length = es.size := by simp
  generalize hv : ((List.range (mask + 1)).filterMap fun j => (o.getD j none).map (j, ·)) = live
  have mem : ∀ j k, (j, k) ∈ live ↔ j ≤ mask ∧ o[j]? = some (some k) := fun j k => by
    rw [← hv, List.mem_filterMap]
    constructor
    · rintro ⟨i, hi, e⟩
      rw [List.mem_range] at hi; rw [Array.getD_eq_getD_getElem?] at e
      cases q : o[i]? with
      | none => rw [q] at e; simp at e
      | some w =>
        rw [q] at e
        cases w with
        | none => simp at e
        | some k' => simp at e; obtain ⟨rfl, rfl⟩ := e; exact ⟨by omega, q⟩
    · rintro ⟨h1, h2⟩
      refine ⟨j, List.mem_range.mpr (by omega), ?_⟩
      rw [Array.getD_eq_getD_getElem?, h2]
      rfl
  have pw : live.Pairwise fun a b => a.1 < b.1 := by
    rw [← hv, List.pairwise_filterMap]
    refine List.pairwise_lt_range.imp fun {a b} hab c hc d hd => ?_
    have e1 : c.1 = a := by
      cases q : o.getD a none with
      | none => rw [q] at hc; simp at hc
      | some k => rw [q] at hc; simp at hc; rw [← hc]
    have e2 : d.1 = b := by
      cases q : o.getD b none with
      | none => rw [q] at hd; simp at hd
      | some k => rw [q] at hd; simp at hd; rw [← hd]
    rw [e1, e2]
    exact hab
  have nd2 : (live.map (·.2)).Nodup := by
    rw [List.nodup_iff_pairwise_ne, List.pairwise_map]
    refine List.Pairwise.imp_of_mem (fun {a b} ha hb hab => ?_) pw
    intro z
    have h1 := ((mem a.1 a.2).mp ha).2
    have h2 := ((mem b.1 b.2).mp hb).2
    rw [← z] at h2
    have := O.inj _ _ _ h1 h2
    omega
  have mem2 : ∀ k, k ∈ live.map (·.2) ↔ k ∈ List.range es.size := fun k => by
    rw [List.mem_map, List.mem_range]
    constructor
    · rintro ⟨⟨j, k'⟩, hj, rfl⟩
      have := O.lt j k' ((mem j k').mp hj).2
      rw [hlen] at this
      exact this
    · intro hk
      obtain ⟨j, hj, w⟩ := O.at_ k _ (List.getElem?_eq_getElem (by rw [hlen]; exact hk))
      refine ⟨(j, k), (mem j k).mpr ⟨?_, hj⟩, rfl⟩
      have := (Array.getElem?_eq_some_iff.mp hj).1
      rw [O.sz] at this
      omega
  have perm := perm_of nd2 List.nodup_range mem2
  have toL : ((live.map (·.2)).toArray.filterMap (fun k => es[k]?)).toList = (live.map (·.2)).filterMap (fun k => es.toList[k]?) := by simp
  refine ⟨_, _, by unfold SetTable.laid; rw [e]; simp only [Option.bind_eq_bind, Option.bind_some]; rw [hv]; rfl, rfl, rfl, rfl, rfl, rfl, ?_, ?_⟩
  · rw [toL]
    have := perm.filterMap (fun k => es.toList[k]?)
    rw [show es.size = es.toList.length by simp, range_all] at this
    exact this
  · rw [toL]
    have item : ∀ p ∈ live, ∃ x, es.toList[p.2]? = some x := fun p hp => by
      have := (mem2 p.2).mp (List.mem_map.mpr ⟨p, hp, rfl⟩)
      rw [List.mem_range] at this
      exact ⟨_, List.getElem?_eq_getElem (by simpa using this)⟩
    have row : ∀ l : List (Nat × Nat), (∀ p ∈ l, ∃ x, es.toList[p.2]? = some x) → ((l.map (·.2)).filterMap (fun k => es.toList[k]?)).length = l.length ∧
        ∀ (i : Nat) (x : Int × α), ((l.map (·.2)).filterMap (fun k => es.toList[k]?))[i]? = some x → ∃ p, l[i]? = some p ∧ es.toList[p.2]? = some x := by
      intro l
      induction l with
      | nil => intro _; exact ⟨rfl, fun i x h => by simp at h⟩
      | cons p l ih =>
        intro hl
        obtain ⟨y, hy⟩ := hl p (by simp)
        obtain ⟨h1, h2⟩ := ih fun q hq => hl q (by simp [hq])
        rw [List.map_cons, List.filterMap_cons, hy]
        refine ⟨by rw [List.length_cons, List.length_cons, h1], fun i x h => ?_⟩
        cases i with
        | zero => simp at h; subst h; exact ⟨p, rfl, hy⟩
        | succ i =>
          rw [List.getElem?_cons_succ] at h
          obtain ⟨q, hq, hx⟩ := h2 i x h
          exact ⟨q, by simpa using hq, hx⟩
    obtain ⟨r1, r2⟩ := row live item
    have ll : live.length = es.size := by
      have := perm.length_eq
      simpa using this
    refine ⟨hm, rfl, ?_, ?_, ?_, ?_, ?_⟩
    · show (live.map (·.1)).toArray.toList.Pairwise _
      rw [List.toList_toArray, List.pairwise_map]
      exact pw
    · intro j hj
      have hj : j ∈ live.map (·.1) := by simpa using hj
      obtain ⟨⟨j', k⟩, hp, rfl⟩ := List.mem_map.mp hj
      exact ((mem j' k).mp hp).1
    · show (live.map (·.1)).toArray.toList.length = _
      rw [List.toList_toArray, List.length_map, List.length_map, r1]
    · rw [List.length_map, r1, ll]
      exact hl
    · intro i j h e1 e2
      rw [List.getElem?_map] at e1
      obtain ⟨x, hx, rfl⟩ := Option.map_eq_some_iff.mp e1
      obtain ⟨p, hp, hpx⟩ := r2 i x hx
      have e2 : (live.map (·.1))[i]? = some j := by simpa using e2
      rw [List.getElem?_map, hp] at e2
      have e2 : p.1 = j := by simpa using e2
      have hm2 := (mem p.1 p.2).mp (List.mem_of_getElem? hp)
      obtain ⟨j', hj', w⟩ := O.at_ p.2 x.1 (by
        have : (es.map (·.1)).toList[p.2]? = (es.toList[p.2]?).map (·.1) := by simp
        rw [this, hpx]; rfl)
      have := O.inj _ _ _ hj' hm2.2
      rw [this, e2] at w
      refine w.more fun y hy => ?_
      obtain ⟨hy1, k, hk⟩ := mem_occ.mp hy
      show y ∈ (live.map (·.1)).toArray.toList
      rw [List.toList_toArray]
      exact List.mem_map.mpr ⟨(y, k), (mem y k).mpr ⟨hy1, hk⟩, rfl⟩
end LS
set_option maxRecDepth 100000
set_option maxHeartbeats 1000000
namespace LS
open PySem
section
variable {prog : Program} {w : World} {K : Type} [DecidableEq K] {kn : KeyKind prog w K} {A : Around} {E : Value → Shared → Prop} {s : Shared}
theorem unseen {ks : List K} {a : Addr} {Q : Bool → Shared → Prop} (hk : IsTupleKey kn s.heap ks a) (h : Q false s) : wpAny (model prog w) A (ofAClassStatement 8 (.ref a)) Q E s := by
  have hT := hk.typeIs
  obtain ⟨o, items, n, ho, hc, hd, hi⟩ := hk
  unfold ofAClassStatement
  refine wpAny_bind (wpAny_typeOf hT ?_); show wpAny _ _ (_ >>= _) _ _ _
  simp only [beq_self_eq_true, if_true]; refine wpAny_bind (wpAny_pure ?_)
  simp only [Bool.not_true, Bool.false_eq_true, if_false]; refine wpAny_bind (wpAny_seqItems ho hd ?_)
  refine wpAny_bind ?_
  show wpAny _ _ (forIn items _ _) _ _ s; rw [← Array.forIn_toList]; refine wpAny_forIn_list _ (fun rest r s' => r.1 = none ∧ s' = s ∧ ∀ v ∈ rest, carriedByValue v = true) _ ?_ ?_ _ _ ⟨rfl, rfl, hi.byValue⟩
  · rintro v rest r s' ⟨hr, rfl, hall⟩; have hv := hall v List.mem_cons_self
    have e : ofAClassStatement 7 v = pure false := by
      cases v with
      | ref b => simp [carriedByValue] at hv
      | _ => rfl
    rw [e]
    refine wpAny_bind (wpAny_pure ?_); simp only [Bool.false_eq_true, if_false]; exact wpAny_pure ⟨rfl, rfl, fun u hu' => hall u (List.mem_cons_of_mem _ hu')⟩
  · rintro ⟨r1, r2⟩ s' ⟨hr, rfl, _⟩; simp only at hr
    subst hr
    exact wpAny_pure h
theorem byValue_tuple {o : Obj} {a : Addr} {items : Array Value} {n : Nat} {Q : Bool → Shared → Prop} (ho : s.heap.get? a = some o) (hc : o.cls = .type "tuple") (hd : o.data = .seq items n) (hall : ∀ v ∈ items.toList, v.scannable = true)
    (h : Q (items.toList.all plainKind) s) : wpAny (model prog w) A (hashByValue 8 (.ref a)) Q E s := by
  have hT : s.TypeIs (.ref a) "tuple" := ⟨o, ho, hc⟩
  unfold hashByValue
  refine wpAny_bind (wpAny_specialOf hT F.slot_tuple_hash.lookup ?_); show wpAny _ _ (seqItems? (.ref a) >>= _) _ _ _
  refine wpAny_bind (wpAny_seqItems ho hd ?_); refine wpAny_bind ?_
  show wpAny _ _ (forIn items _ _) _ _ s; rw [← Array.forIn_toList]
  refine wpAny_forIn_list _ (fun rest r s' => s' = s ∧ ((r.1 = none ∧ (∀ v ∈ rest, v.scannable = true) ∧ rest.all plainKind = items.toList.all plainKind))) _ ?_ ?_ _ _ ⟨rfl, rfl, hall, rfl⟩
  · rintro v rest r s' ⟨rfl, hr, hall, he⟩
    rw [hashByValue_scannable 7 (hall v List.mem_cons_self)]
    refine wpAny_bind (wpAny_pure ?_); rw [List.all_cons] at he
    cases hp : plainKind v with
    | true =>
      simp only [Bool.not_true, Bool.false_eq_true, if_false]; rw [hp, Bool.true_and] at he
      exact wpAny_pure ⟨rfl, rfl, fun u hu' => hall u (List.mem_cons_of_mem _ hu'), he⟩
    | false =>
      rw [hp, Bool.false_and] at he
      rw [← he] at h
      simp only [Bool.not_false, if_true]; first | exact wpAny_pure (wpAny_pure h) | exact wpAny_bind (wpAny_pure (wpAny_pure h))
  · rintro ⟨r1, r2⟩ s' ⟨rfl, hr, _, he⟩
    simp only at hr
    subst hr
    rw [← he] at h
    exact wpAny_pure h
theorem notSeen {x : Value} {ks : List K} {b : Addr} {Q : Bool → Shared → Prop} (hk : IsTupleKey kn s.heap ks b) (l : List Value) (hl : ∀ v ∈ l, ∃ ks' a, v = .ref a ∧ IsTupleKey kn s.heap ks' a) (h : Q false s) : wpAny (model prog w) A (searchCouldBeSeen (.ref b) l) Q E s := by
  unfold searchCouldBeSeen
  refine wpAny_bind ?_
  refine wpAny_forIn_list _ (fun rest r s' => r.1 = none ∧ s' = s ∧ ∀ v ∈ rest, ∃ ks' a, v = .ref a ∧ IsTupleKey kn s.heap ks' a) _ ?_ ?_ _ _ ⟨rfl, rfl, hl⟩
  · rintro v rest r s' ⟨hr, rfl, hall⟩; obtain ⟨ks', a, rfl, hk'⟩ := hall v List.mem_cons_self
    have hall' : ∀ v ∈ rest, ∃ ks' a, v = .ref a ∧ IsTupleKey kn s'.heap ks' a := fun u hu' => hall u (List.mem_cons_of_mem _ hu')
    dsimp only
    split
    · exact wpAny_pure ⟨rfl, rfl, hall'⟩
    · refine wpAny_bind (wpAny_eqIsQuiet_tuple hk ?_)
      simp only [Bool.not_true, Bool.false_eq_true, if_false]; refine wpAny_bind (wpAny_eqIsQuiet_tuple hk' ?_)
      simp only [Bool.not_true, Bool.false_eq_true, if_false]; refine wpAny_bind (unseen hk ?_)
      simp only [Bool.false_eq_true, if_false]; refine wpAny_bind (unseen hk' ?_)
      simp only [Bool.false_eq_true, if_false]; exact wpAny_pure ⟨rfl, rfl, hall'⟩
  · rintro ⟨r1, r2⟩ s' ⟨hr, rfl, _⟩; simp only at hr
    subst hr
    exact wpAny_pure h
structure SetAt (kn : KeyKind prog w K) (h : Heap) (xs : List (List K × Addr)) (es : Array (Int × Value)) (t : SetTable) : Prop where
  es : es.toList = xs.map fun x => (tupleKeyHash kn x.1, Value.ref x.2)
  is : ∀ x ∈ xs, IsTupleKey kn h x.1 x.2
  nd : (xs.map (·.1)).Nodup
  tab : Tab t (xs.map fun x => tupleKeyHash kn x.1)
  cap : xs.length * 5 < t.mask * 3
theorem SetAt.size {h : Heap} {xs : List (List K × Addr)} {es : Array (Int × Value)} {t : SetTable} (S : SetAt kn h xs es t) : es.size = xs.length := by
  rw [← Array.length_toList, S.es, List.length_map]
theorem SetAt.fits {h : Heap} {xs : List (List K × Addr)} {es : Array (Int × Value)} {t : SetTable} (S : SetAt kn h xs es t) : t.fits es.size = true := by
  unfold SetTable.fits SetTable.fill
  have h1 := S.tab.len
  have h2 := S.tab.room
  have h3 := S.size
  rw [S.tab.dum]
  simp only [Array.length_toList, List.length_map] at h1 h2
  simp only [Bool.and_eq_true, beq_iff_eq, decide_eq_true_eq, List.size_toArray, List.length_nil]
  omega
theorem SetAt.odd {h : Heap} {xs : List (List K × Addr)} {es : Array (Int × Value)} {t : SetTable} (S : SetAt kn h xs es t) : t.gaveWay = false := by
  unfold SetTable.gaveWay
  rcases S.tab.mask with e | e | e | e | e <;> rw [e] <;> rfl
theorem SetAt.get {h : Heap} {xs : List (List K × Addr)} {es : Array (Int × Value)} {t : SetTable} (S : SetAt kn h xs es t) {i : Nat} {x : List K × Addr} (e : xs[i]? = some x) : es[i]? = some (tupleKeyHash kn x.1, Value.ref x.2) := by
  rw [← Array.getElem?_toList, S.es, List.getElem?_map, e]
  rfl
theorem search_go {a b : Addr} {o : Obj} {es : Array (Int × Value)} {ep : Nat} {t : SetTable} {xs : List (List K × Addr)} {k : List K} {adding : Bool} {Q : SetFound → Shared → Prop} (hu : A.units < cLine)
    (ho : s.heap.get? a = some o) (hd : o.data = .set es ep t) (S : SetAt kn s.heap xs es t) (hk : IsTupleKey kn s.heap k b) {e : Nat} (he1 : (pos t.mask (tupleKeyHash kn k) e).j ∉ t.place.toList) (he2 : ∀ m, m < e → (pos t.mask (tupleKeyHash kn k) m).j ∈ t.place.toList)
    (there : k ∈ xs.map (·.1) → ∀ i, Q (.there i) s) (free : k ∉ xs.map (·.1) → ∀ j, j ≤ t.mask → j ∉ t.place.toList → Way t.mask t.place.toList (tupleKeyHash kn k) j → Q (.free j false) s) :
    ∀ (fuel n : Nat) (stand : Option SetTable.Probe), n ≤ e → e - n < fuel → stand.getD (t.probeStart (tupleKeyHash kn k)) = pos t.mask (tupleKeyHash kn k) n →
      (∀ (m i : Nat) (x : List K × Addr), m < n → t.place.toList[i]? = some (pos t.mask (tupleKeyHash kn k) m).j → xs[i]? = some x → x.1 ≠ k) →
      wpAny (model prog w) A (setSearchFrom a (.ref b) (tupleKeyHash kn k) adding fuel stand) Q E s := by
  intro fuel
  induction fuel with
  | zero => intro n stand _ h; omega
  | succ fuel ih =>
    intro n stand hne hf hst hn
    unfold setSearchFrom
    refine wpAny_bind (wpAny_setState_of ho hd S.fits ?_)
    dsimp only
    rw [S.odd, hst]
    simp only [Bool.false_eq_true, if_false]; generalize hh : tupleKeyHash kn k = h at *
    have hashAt : ∀ (i : Nat) (x : List K × Addr), xs[i]? = some x → ((es[i]?.map (·.1)).getD 0) = tupleKeyHash kn x.1 := fun i x e => by rw [S.get e]; rfl
    obtain ⟨n1, hn1, mid, end_⟩ := S.tab.probe (fun i => (es[i]?.map (·.1)).getD 0) h n
    have inx : ∀ (i j : Nat), t.place.toList[i]? = some j → ∃ x, xs[i]? = some x := fun i j e => by
      have h1 := (List.getElem?_eq_some_iff.mp e).1
      have h2 := S.tab.len
      rw [List.length_map] at h2
      exact ⟨_, List.getElem?_eq_getElem (by omega)⟩
    rcases end_ with ⟨hem, ep⟩ | ⟨i, hi, hhi, ep⟩
    · erw [ep]
      dsimp only
      have live : ∀ m, m < n1 → (pos t.mask h m).j ∈ t.place.toList := fun m hm => by
        by_cases c : m < n
        · exact he2 m (by omega)
        · obtain ⟨i, hi, _⟩ := mid m (by omega) hm
          exact List.mem_of_getElem? hi
      refine wpAny_pure (free (fun hin => ?_) _ ?_ hem ⟨n1, rfl, live⟩)
      · obtain ⟨x, hx, rfl⟩ := List.mem_map.mp hin
        obtain ⟨i, hi⟩ := List.getElem?_of_mem hx
        have hlen := S.tab.len
        rw [List.length_map] at hlen
        obtain ⟨j, hj⟩ : ∃ j, t.place.toList[i]? = some j := ⟨_, List.getElem?_eq_getElem (by have := (List.getElem?_eq_some_iff.mp hi).1; omega)⟩
        obtain ⟨n', e', l'⟩ := S.tab.way i j h (by rw [List.getElem?_map, hi, ← hh]; rfl) hj
        have lt : n' < n1 := by
          rcases Nat.lt_trichotomy n' n1 with z | z | z
          · exact z
          · subst z; rw [e'] at hem; exact absurd (List.mem_of_getElem? hj) hem
          · exact absurd (l' n1 z) hem
        by_cases c : n' < n
        · exact hn n' i x c (by rw [e']; exact hj) hi rfl
        · obtain ⟨i', hi', hne'⟩ := mid n' (by omega) lt
          rw [e'] at hi'
          have : i' = i := by
            have l1 := (List.getElem?_eq_some_iff.mp hi').1
            exact (List.getElem?_inj l1 S.tab.nd).mp (hi'.trans hj.symm)
          subst this
          exact hne' ((hashAt _ x hi).trans hh)
      · -- the slot lies in the table
        have key : ∀ n, (pos t.mask h n).j ≤ t.mask := pos_le S.tab.mask h
        exact key n1
    · erw [ep]
      dsimp only
      have lt : n1 < e := by
        rcases Nat.lt_trichotomy n1 e with z | z | z
        · exact z
        · subst z; exact absurd (List.mem_of_getElem? hi) he1
        · obtain ⟨i', hi', _⟩ := mid e (by omega) z
          exact absurd (List.mem_of_getElem? hi') he1
      obtain ⟨x, hx⟩ := inx i _ hi
      have hxk := S.is x (List.mem_of_getElem? hx)
      have side : ∀ v ∈ (es.filter (·.1 == h)).toList.map (·.2), ∃ ks' c, v = .ref c ∧ IsTupleKey kn s.heap ks' c := fun v hv => by
        obtain ⟨en, hen, rfl⟩ := List.mem_map.mp hv
        have hen : en ∈ es.toList := Array.mem_toList_iff.mpr (Array.mem_filter.mp (Array.mem_toList_iff.mp hen)).1
        rw [S.es] at hen
        obtain ⟨y, hy, rfl⟩ := List.mem_map.mp hen
        exact ⟨y.1, y.2, rfl, S.is y hy⟩
      rcases Bool.eq_false_or_eq_true (!t.led) with cl | cl
      all_goals first
        | rw [if_pos cl]; refine wpAny_bind (notSeen (x := .none) hk _ side ?_); rw [if_neg Bool.false_ne_true]
        | rw [if_neg (by rw [cl]; exact Bool.false_ne_true)]
      all_goals
        rw [S.get hx]
        dsimp only
        refine wpAny_bind (wpAny_holding (wpAny_eqBool_tuple hu hxk hk ?_))
        refine wpAny_bind (wpAny_setState_of ho hd S.fits ?_)
        dsimp only
        by_cases c : x.1 = k
        · rw [decide_eq_true c]
          have hin : k ∈ xs.map (·.1) := by rw [← c]; exact List.mem_map.mpr ⟨x, List.mem_of_getElem? hx, rfl⟩
          cases adding with
          | true => exact wpAny_pure (there hin none)
          | false =>
            simp only [Bool.false_and, Bool.false_eq_true, if_false]
            have sm : t.sameMemory t.moves t.mask = some true := by unfold SetTable.sameMemory; simp
            rw [sm]
            dsimp only
            simp only [if_true]
            rw [slot_live S.tab.pw hi]
            dsimp only
            rw [S.get hx]
            dsimp only
            refine wpAny_bind (wpAny_isSame_ref_self ?_)
            simp only [if_true]
            exact wpAny_bind (wpAny_pure (wpAny_pure (there hin _)))
        · rw [decide_eq_false c, Bool.and_false]
          simp only [Bool.false_eq_true, if_false]; have sm : t.sameMemory t.moves t.mask = some true := by unfold SetTable.sameMemory; simp
          rw [sm]
          dsimp only
          simp only [if_true]
          rw [slot_live S.tab.pw hi]
          dsimp only
          rw [S.get hx]
          dsimp only
          refine wpAny_bind (wpAny_isSame_ref_self ?_)
          simp only [if_true]
          refine wpAny_bind (wpAny_pure ?_); dsimp only
          refine ih (n1 + 1) _ (by omega) (by omega) rfl fun m i' y hm hi' hy => ?_
          by_cases c1 : m < n
          · exact hn m i' y c1 hi' hy
          · by_cases c2 : m = n1
            · subst c2
              have : i' = i := by
                have l1 := (List.getElem?_eq_some_iff.mp hi').1
                exact (List.getElem?_inj l1 S.tab.nd).mp (hi'.trans hi.symm)
              subst this
              rw [hx] at hy
              cases hy
              exact c
            · obtain ⟨i2, hi2, hne2⟩ := mid m (by omega) (by omega)
              have : i' = i2 := by
                have l1 := (List.getElem?_eq_some_iff.mp hi').1
                exact (List.getElem?_inj l1 S.tab.nd).mp (hi'.trans hi2.symm)
              subst this
              intro z
              exact hne2 ((hashAt _ y hy).trans (by rw [z, hh]))
theorem set_search {a b : Addr} {o : Obj} {es : Array (Int × Value)} {ep : Nat} {t : SetTable} {xs : List (List K × Addr)} {k : List K} {adding : Bool} {Q : SetFound → Shared → Prop} (hu : A.units < cLine)
    (ho : s.heap.get? a = some o) (hd : o.data = .set es ep t) (S : SetAt kn s.heap xs es t) (hk : IsTupleKey kn s.heap k b)
    (there : k ∈ xs.map (·.1) → ∀ i, Q (.there i) s) (free : k ∉ xs.map (·.1) → ∀ j, j ≤ t.mask → j ∉ t.place.toList → Way t.mask t.place.toList (tupleKeyHash kn k) j → Q (.free j false) s) :
    wpAny (model prog w) A (setSearch a (.ref b) (tupleKeyHash kn k) adding) Q E s := by
  obtain ⟨e, he, h1, h2⟩ := S.tab.first (tupleKeyHash kn k)
  unfold setSearch
  exact search_go hu ho hd S hk h1 h2 there free _ 0 none (Nat.zero_le _) (by omega) rfl fun m i x hm => by omega
theorem perm_map_inv {α β : Type} {f : α → β} : ∀ {l : List β} {m : List α}, l.Perm (m.map f) → ∃ l' : List α, l = l'.map f ∧ l'.Perm m := by
  intro l m h
  generalize hm : m.map f = m' at h
  induction h generalizing m with
  | nil => exact ⟨[], rfl, by cases m with | nil => exact .nil | cons a r => simp at hm⟩
  | @cons x l1 l2 p ih =>
    cases m with
    | nil => simp at hm
    | cons a r =>
      rw [List.map_cons] at hm
      obtain ⟨rfl, hr⟩ := List.cons.inj hm
      obtain ⟨l', e, q⟩ := ih hr
      exact ⟨a :: l', by rw [e]; rfl, q.cons a⟩
  | @swap x y l1 =>
    match m, hm with
    | a :: b :: r, hm =>
      simp at hm
      obtain ⟨rfl, rfl, rfl⟩ := hm
      exact ⟨b :: a :: r, rfl, .swap _ _ _⟩
  | @trans l1 l2 l3 p q ih1 ih2 =>
    obtain ⟨l', e, q'⟩ := ih2 hm
    obtain ⟨l'', e2, q2⟩ := ih1 e.symm
    exact ⟨l'', e2, q2.trans q'⟩
def Flags (w : World) (n : Nat) (t : SetTable) : Prop := (n ≤ 1 ∨ t.plain = false) ∧ t.led = !(w.params.followText "set-order")
def SetOfT (kn : KeyKind prog w K) (h : Heap) (a : Addr) (xs : List (List K × Addr)) : Prop := ∃ o es ep t, h.get? a = some o ∧ o.ExactSet ∧ o.data = .set es ep t ∧ SetAt kn h xs es t ∧ Flags w xs.length t
theorem keep_tup {h h' : Heap} {a : Addr} {o : Obj} {es : Array (Int × Value)} {ep : Nat} {t : SetTable} {ks : List K} {b : Addr} (ho : h.get? a = some o) (hd : o.data = .set es ep t) (hs : Heap.SameBut a h h') (k : IsTupleKey kn h ks b) : IsTupleKey kn h' ks b := by
  obtain ⟨o', items, n, h1, h2, h3, h4⟩ := k
  have ne : b ≠ a := by
    rintro rfl
    rw [ho] at h1
    cases h1
    rw [hd] at h3
    cases h3
  exact ⟨o', items, n, (hs.2 b ne).trans h1, h2, h3, h4⟩
theorem grown_mask {n : Nat} (h : n ≤ 31) : OkMask (SetTable.sizeAbove (4 * n) - 1) ∧ 4 * n < SetTable.sizeAbove (4 * n) ∧ SetTable.sizeAbove (4 * n) ≤ 128 := by
  have key : (List.range 32).all (fun n => (decide (SetTable.sizeAbove (4 * n) - 1 = 7 ∨ SetTable.sizeAbove (4 * n) - 1 = 15 ∨ SetTable.sizeAbove (4 * n) - 1 = 31 ∨ SetTable.sizeAbove (4 * n) - 1 = 63 ∨ SetTable.sizeAbove (4 * n) - 1 = 127)) && decide (4 * n < SetTable.sizeAbove (4 * n)) && decide (SetTable.sizeAbove (4 * n) ≤ 128)) = true := by decide +kernel
  have := List.all_eq_true.mp key n (List.mem_range.mpr (by omega))
  simp only [Bool.and_eq_true, decide_eq_true_eq] at this
  exact ⟨this.1.1, this.1.2, this.2⟩
theorem double_mask {n : Nat} (h : n ≤ 60) : OkMask (SetTable.sizeAbove (n * 2) - 1) ∧ n * 2 < SetTable.sizeAbove (n * 2) ∧ SetTable.sizeAbove (n * 2) ≤ 128 := by
  have key : (List.range 61).all (fun n => (decide (SetTable.sizeAbove (n * 2) - 1 = 7 ∨ SetTable.sizeAbove (n * 2) - 1 = 15 ∨ SetTable.sizeAbove (n * 2) - 1 = 31 ∨ SetTable.sizeAbove (n * 2) - 1 = 63 ∨ SetTable.sizeAbove (n * 2) - 1 = 127)) && decide (n * 2 < SetTable.sizeAbove (n * 2)) && decide (SetTable.sizeAbove (n * 2) ≤ 128)) = true := by decide +kernel
  have := List.all_eq_true.mp key n (List.mem_range.mpr (by omega))
  simp only [Bool.and_eq_true, decide_eq_true_eq] at this
  exact ⟨this.1.1, this.1.2, this.2⟩
theorem stored {h : Heap} {a : Addr} {o : Obj} {es : Array (Int × Value)} {ep : Nat} {t : SetTable} (ho : h.get? a = some o) (hd : o.data = .set es ep t) (es' : Array (Int × Value)) (t' : SetTable) :
    (h.update a (Obj.putSet es' t')).get? a = some { o with data := .set es' (ep + 1) t' } := by
  have := Heap.get?_update_self (Obj.putSet es' t') ho (by rw [putSet_of es' t' hd]; rfl); rwa [putSet_of es' t' hd] at this
theorem set_relay {a : Addr} {o : Obj} {es : Array (Int × Value)} {ep : Nat} {t : SetTable} {xs : List (List K × Addr)} {wanted : Nat} {Q : Unit → Shared → Prop}
    (ho : s.heap.get? a = some o) (hex : o.ExactSet) (hd : o.data = .set es ep t) (hes : es.toList = xs.map fun x => (tupleKeyHash kn x.1, Value.ref x.2)) (hfit : t.fits es.size = true) (his : ∀ x ∈ xs, IsTupleKey kn s.heap x.1 x.2) (hnd : (xs.map (·.1)).Nodup)
    (hm : OkMask (SetTable.sizeAbove wanted - 1)) (hsz : SetTable.sizeAbove wanted ≤ 128) (hcap : xs.length * 5 < (SetTable.sizeAbove wanted - 1) * 3) (hle : xs.length ≤ SetTable.sizeAbove wanted - 1)
    (h : ∀ h' o' es' ep' t' xs', Heap.SameBut a s.heap h' → h'.get? a = some o' → o'.ExactSet → o'.data = .set es' ep' t' → xs'.Perm xs → SetAt kn h' xs' es' t' → t'.plain = t.plain → t'.led = t.led → t'.mask = SetTable.sizeAbove wanted - 1 → Q () { s with heap := h' }) :
    wpAny (model prog w) A (setRelay a wanted) Q E s := by
  have hsize : es.size = xs.length := by rw [← Array.length_toList, hes, List.length_map]
  unfold setRelay
  refine wpAny_bind (wpAny_setState_of ho hd hfit ?_)
  dsimp only
  rw [if_neg (Nat.not_lt.mpr (Nat.le_trans hsz (by rw [sizeLine_eq]; decide)))]
  obtain ⟨t', order, e, e1, e2, e3, e4, e5, perm, tab⟩ := laid_ok hm es (by omega) t.finger (t.movedTo (SetTable.sizeAbove wanted - 1)) t.led t.plain
  have e' : t.relaid (es.map (·.1)) wanted = some (t', order) := e
  rw [e']
  have hs' : (order.filterMap (fun k => es[k]?)).size = es.size := by rw [← Array.length_toList, perm.length_eq, Array.length_toList]
  obtain ⟨xs', px, ex⟩ : ∃ xs' : List (List K × Addr), xs'.Perm xs ∧ (order.filterMap (fun k => es[k]?)).toList = xs'.map fun x => (tupleKeyHash kn x.1, Value.ref x.2) := by
    rw [hes] at perm
    obtain ⟨l, h1, h2⟩ := perm_map_inv perm
    exact ⟨l, h2, h1⟩
  refine wpAny_bind ?_
  refine wpAny_mono (Q := fun r s' => r = (order.filterMap (fun k => es[k]?), t') ∧ s = s') ?_ ?_ (fun _ _ x => x)
  · show wpAny _ _ (if ((order.filterMap (fun k => es[k]?)).size != es.size) = true then _ else _) _ _ _
    rw [if_neg (by rw [hs']; simp)]
    exact wpAny_pure ⟨rfl, rfl⟩
  · rintro _ _ ⟨rfl, rfl⟩
    dsimp only
    refine wpAny_storeSet_of ho hd ?_ (by rw [hs', hsize, sizeLine_eq]; omega)
    have sb := Heap.SameBut.update s.heap a (Obj.putSet (order.filterMap (fun k => es[k]?)) t')
    refine h _ _ _ _ _ xs' sb (stored ho hd _ _) hex rfl px ⟨ex, fun x hx => keep_tup ho hd sb (his x (px.mem_iff.mp hx)), ?_, ?_, ?_⟩ e3 e2 e1
    · exact (px.map _).nodup_iff.mpr hnd
    · rw [ex, List.map_map] at tab
      exact tab
    · rw [px.length_eq, e1]
      exact hcap
end
end LS
set_option maxRecDepth 100000
set_option maxHeartbeats 1000000
namespace LS
open PySem
theorem Tab.plain {t : SetTable} {hs : List Int} (T : Tab t hs) (b : Bool) : Tab { t with plain := b } hs := ⟨T.mask, T.dum, T.pw, T.le, T.len, T.room, T.way⟩
section
variable {prog : Program} {w : World} {K : Type} [DecidableEq K] {kn : KeyKind prog w K} {A : Around} {E : Value → Shared → Prop} {s : Shared}
def Texty (h : Heap) (b : Addr) : Prop := ∃ o items n, h.get? b = some o ∧ o.cls = .type "tuple" ∧ o.data = .seq items n ∧ (∀ v ∈ items.toList, v.scannable = true) ∧ items.toList.all plainKind = false
theorem set_add {a b : Addr} {xs : List (List K × Addr)} {k : List K} {Q : Bool → Shared → Prop} (hu : A.units < cLine) (hS : SetOfT kn s.heap a xs) (hk : IsTupleKey kn s.heap k b) (hv : Texty s.heap b) (hl : xs.length ≤ 36)
    (h : ∀ r h' xs', Heap.SameBut a s.heap h' → SetOfT kn h' a xs' → (k ∈ xs.map (·.1) → xs' = xs) → (k ∉ xs.map (·.1) → xs'.Perm ((k, b) :: xs)) → Q r { s with heap := h' }) :
    wpAny (model prog w) A (setAddHashed a (.ref b) (tupleKeyHash kn k)) Q E s := by
  obtain ⟨o, es, ep, t, ho, hex, hd, S, hpl⟩ := hS
  unfold setAddHashed setAddHashedIn; refine wpAny_holding (wpAny_bind (wpAny_setState_of ho hd S.fits ?_))
  dsimp only
  have hb : byScan (Value.ref b) es = false := rfl
  rw [hb]
  simp only [Bool.false_eq_true, if_false]; refine wpAny_bind (set_search hu ho hd S hk (fun hin i => ?_) fun hnin j hj hjn hway => ?_)
  · dsimp only
    refine wpAny_pure ?_
    have := h false s.heap xs (Heap.SameBut.refl a s.heap) ⟨o, es, ep, t, ho, hex, hd, S, hpl⟩ (fun _ => rfl) (fun z => absurd hin z)
    have e : s = { s with heap := s.heap } := (by cases s; rfl); rw [e]; exact this
  · dsimp only
    refine wpAny_bind (wpAny_setState_of ho hd S.fits ?_)
    dsimp only
    have hcap := S.cap
    have hlen := S.tab.len
    rw [List.length_map] at hlen
    have hm7 : 7 ≤ t.mask := by rcases S.tab.mask with z | z | z | z | z <;> omega
    obtain ⟨p, hp, ep2, T1⟩ := S.tab.put hjn hj hway (by rw [List.length_map]; omega)
    rw [List.length_map] at hp
    generalize hput : t.put j = tp at ep2 T1
    obtain ⟨t1, p'⟩ := tp
    dsimp only at ep2 T1 ⊢
    subst ep2
    have hm1 : t1.mask = t.mask := by have := congrArg (fun q : SetTable × Nat => q.1.mask) hput; exact this.symm
    have hld1 : t1.led = t.led := by have := congrArg (fun q : SetTable × Nat => q.1.led) hput; exact this.symm
    have hp1 : t1.plain = t.plain := by have := congrArg (fun q : SetTable × Nat => q.1.plain) hput; exact this.symm
    have hes1 : (SetTable.insertAt es p' (tupleKeyHash kn k, Value.ref b)).toList = (xs.take p' ++ (k, b) :: xs.drop p').map fun x => (tupleKeyHash kn x.1, Value.ref x.2) := by
      rw [insertAt_list _ _ _ (by rw [S.size]; exact hp), S.es, List.map_append, List.map_cons, List.map_take, List.map_drop]
    have perm : (xs.take p' ++ (k, b) :: xs.drop p').Perm ((k, b) :: xs) := by
      refine List.perm_middle.trans (.cons _ ?_)
      rw [List.take_append_drop]
    have hnd1 : ((xs.take p' ++ (k, b) :: xs.drop p').map (·.1)).Nodup := by
      refine (perm.map _).nodup_iff.mpr ?_
      rw [List.map_cons, List.nodup_cons]; exact ⟨hnin, S.nd⟩
    have T2 : Tab t1 ((xs.take p' ++ (k, b) :: xs.drop p').map fun x => tupleKeyHash kn x.1) := by
      rw [List.map_append, List.map_cons, List.map_take, List.map_drop]
      exact T1
    generalize hx1 : xs.take p' ++ (k, b) :: xs.drop p' = xs1 at hes1 perm hnd1 T2
    have hl1 : xs1.length = xs.length + 1 := by rw [perm.length_eq, List.length_cons]
    have hsz1 : (SetTable.insertAt es p' (tupleKeyHash kn k, Value.ref b)).size = xs1.length := by rw [← Array.length_toList, hes1, List.length_map]
    have his1 : ∀ x ∈ xs1, IsTupleKey kn s.heap x.1 x.2 := fun x hx => by
      rcases List.mem_cons.mp (perm.mem_iff.mp hx) with rfl | z
      · exact hk
      · exact S.is x z
    have tail : ∀ t2 : SetTable, t2.mask = t1.mask → t2.plain = false → t2.led = t1.led → Tab t2 (xs1.map fun x => tupleKeyHash kn x.1) →
        wpAny (model prog w) A (do
          storeSet a (SetTable.insertAt es p' (tupleKeyHash kn k, Value.ref b)) t2
          if (!false && t2.tooFull) = true then do
              setRelay a (SetTable.grown (es.size + 1))
              pure true
            else pure true) Q E s := by
      intro t2 hm2 hp2 hl2 Tt
      have hled : t2.led = !(w.params.followText "set-order") := by rw [hl2, hld1]; exact hpl.2
      refine wpAny_bind (wpAny_storeSet_of ho hd ?_ (by rw [hsz1, sizeLine_eq]; omega))
      have ho1 := stored ho hd (SetTable.insertAt es p' (tupleKeyHash kn k, Value.ref b)) t2
      have sb := Heap.SameBut.update s.heap a (Obj.putSet (SetTable.insertAt es p' (tupleKeyHash kn k, Value.ref b)) t2)
      generalize s.heap.update a (Obj.putSet (SetTable.insertAt es p' (tupleKeyHash kn k, Value.ref b)) t2) = h1 at ho1 sb ⊢
      have his2 : ∀ x ∈ xs1, IsTupleKey kn h1 x.1 x.2 := fun x hx => keep_tup ho hd sb (his1 x hx)
      have hfill : t2.fill = xs1.length := by
        unfold SetTable.fill
        rw [Tt.dum]
        have := Tt.len
        rw [List.length_map] at this
        simp at this ⊢
        exact this
      have hfit : t2.fits (SetTable.insertAt es p' (tupleKeyHash kn k, Value.ref b)).size = true := by
        unfold SetTable.fits
        have h1 := Tt.len
        have h2 := Tt.room
        rw [List.length_map] at h1 h2
        rw [hfill, hsz1]
        simp only [Array.length_toList] at h1
        simp only [Bool.and_eq_true, beq_iff_eq, decide_eq_true_eq]
        exact ⟨h1, h2⟩
      by_cases full : (!false && t2.tooFull) = true
      · rw [if_pos full]
        have tf : t2.fill * 5 ≥ t2.mask * 3 := by simpa [SetTable.tooFull] using full
        have mm : t2.mask = t.mask := hm2.trans hm1
        have sm : xs1.length ≤ 31 := by
          rw [hfill, mm] at tf
          rcases S.tab.mask with z | z | z | z | z <;> omega
        have gr : SetTable.grown (es.size + 1) = 4 * xs1.length := by
          unfold SetTable.grown
          rw [S.size, hl1, if_neg (by omega)]
          omega
        obtain ⟨g1, g2, g3⟩ := grown_mask (n := xs1.length) (by omega)
        rw [gr]
        refine wpAny_bind (set_relay (s := { s with heap := h1 }) (kn := kn) (xs := xs1) ho1 hex rfl hes1 hfit his2 hnd1 g1 g3 (by omega) (by omega) fun h' o' es' ep' t' xs' sb' ho' hex' hd' px S' pl' led' mk' => wpAny_pure ?_)
        exact h true h' xs' (sb.trans sb') ⟨o', es', ep', t', ho', hex', hd', S', .inr (by rw [pl']; exact hp2), by rw [led']; exact hled⟩ (fun z => absurd z hnin) (fun _ => px.trans perm)
      · rw [if_neg full]
        refine wpAny_pure (h true h1 xs1 sb ⟨_, _, _, t2, ho1, hex, rfl, ⟨hes1, his2, hnd1, Tt, ?_⟩, .inr hp2, hled⟩ (fun z => absurd z hnin) (fun _ => perm))
        have : ¬ (t2.fill * 5 ≥ t2.mask * 3) := fun z => full (by unfold SetTable.tooFull; simp [z])
        rw [hfill] at this
        omega
    obtain ⟨ob, items, n, hb1, hb2, hb3, hb4, hb5⟩ := hv
    by_cases cp : t1.plain = true
    · rw [if_pos cp]
      refine wpAny_bind (byValue_tuple hb1 hb2 hb3 hb4 ?_)
      rw [hb5]
      simp only [Bool.false_eq_true, if_false]; exact tail _ rfl rfl rfl (T2.plain false)
    · rw [if_neg cp]
      refine wpAny_bind (wpAny_pure ?_); simp only [if_true]
      exact tail t1 rfl (by simpa using cp) rfl T2
end
end LS
set_option maxRecDepth 100000
set_option maxHeartbeats 3200000
namespace LS
open PySem PyProof.Rows
abbrev freshSet (led : Bool) : Obj := { cls := .type "set", dict := none, data := .set #[] 0 (.fresh 0 0 led) }
section
variable {w : World} {prog : Program} {A : Around} {E : Value → Shared → Prop} {s : Shared}
theorem new_code (x : Value) {Q₁ : Value → Shared → Prop} (h : Q₁ (.ref s.heap.objs.size) { s with heap := s.heap.push (freshSet (!(w.params.followText "set-order"))) }) :
    codeAny (model prog w) A (.call (.builtin "set.__new__") ⟨[.type "set", x], []⟩) (wants Q₁ E) s := by
  refine codeAny_of_tree ?_
  have step := PySem.F.newCall_set_1 x
  show wpAny _ A.in1 (checkBuiltinCall "set.__new__" ⟨[.type "set", x], []⟩ >>= fun _ => again (.builtin "set.__new__" ⟨[.type "set", x], []⟩)) _ _ s
  refine wpAny_bind (wpAny_of_eq step (wpAny_pure ⟨plainId_quiet PySem.F.plain_set_new _, ?_⟩))
  refine codeAny_builtin PySem.F.entry_set_new ?_
  rw [Around.under_plainId PySem.F.plain_set_new _]
  delta Builtin.«set.__new__»; unfold Builtin.Frozenset.newClass
  have self := sub_set_self
  cases s with
  | mk hp g d tk os =>
    dsimp only at h ⊢
    wp_walk
    refine wpAny_askSetting (wpAny_pure ?_); simp only [newObj]
    exact wpAny_bind (wpAny_alloc (wpAny_pure (wpAny_pure h)))
theorem set_of {x : Value} {Q : Value → Shared → Prop}
    (upd : ∀ (led : Bool) (A' : Around), led = (!(w.params.followText "set-order")) → A'.units ≤ A.units + 8 → A'.handled = A.handled → wpAny (model prog w) A' (Builtin.Frozenset.updateFrom "set.__init__" s.heap.objs.size x) (fun _ s₂ => Q (.ref s.heap.objs.size) s₂) E { s with heap := s.heap.push (freshSet led) }) :
    wpAny (model prog w) A (call (.type "set") [x]) Q E s := by
  obtain ⟨c, tl, hmro⟩ := PySem.F.called_set.mro
  have hmade := PySem.F.called_set.made
  have hsub := PySem.F.called_set.sub
  refine wpAny_call (codeAny_of_tree ?_); show wpAny _ _ (callAny (.type "set") _) _ _ _
  refine wpAny_pure ⟨Code.quiet_builtin _ (by decide +kernel), codeAny_builtin PySem.F.entry_type_call ?_⟩
  rw [Around.under_plain (weight_type_call_type "set" [x] []) rfl]
  have h1 := PySem.F.called_set.notType
  have h2 := PySem.F.called_set.canCreate
  have hct := PySem.F.typeCall_set_1 x
  (repeat (any_goals (first | assumption | wp_step))); refine codeAny_mono (new_code x (E := E) (Q₁ := fun obj s₁ => ∃ led : Bool, led = (!(w.params.followText "set-order")) ∧ obj = .ref s.heap.objs.size ∧ s₁ = { s with heap := s.heap.push (freshSet led) }) ⟨_, rfl, rfl, rfl⟩) fun r s₁ hr => ?_
  cases r with
  | error e => exact hr
  | ok fl =>
    cases fl with
    | ret obj =>
      obtain ⟨led, hled, rfl, rfl⟩ := hr
      have hS : (s.heap.push (freshSet led)).get? s.heap.objs.size = some (freshSet led) := Heap.get?_push_size _ rfl
      have hT : Shared.TypeIs { s with heap := s.heap.push (freshSet led) } (.ref s.heap.objs.size) "set" := ⟨_, hS, rfl⟩
      have hli := PySem.F.called_set.init.lookup
      have hbi := PySem.F.called_set.init.bind (.ref s.heap.objs.size)
      (repeat (any_goals (first | assumption | wp_step))); refine codeAny_mono (codeAny_call_builtin (R := wants (fun r s₂ => r = .none ∧ Q (.ref s.heap.objs.size) s₂) E) PySem.F.called_set.init.plain PySem.F.entry_set_init (check_set_init_1 hT ?_)) fun r₂ s₂ hr₂ => ?_
      · unfold Builtin.«set.__init__» noKeywords; generalize hPI : Builtin.Frozenset.updateFrom = PI
        wp_walk
        subst hPI
        exact wpAny_mono (upd led A.in1.in1 hled (by simp [Around.in1_units]) (by simp)) (fun r s' q => wpAny_pure ⟨rfl, q⟩) (fun e s' x => x)
      · cases r₂ with
        | error e => exact hr₂
        | ok fl₂ =>
          cases fl₂ with
          | ret r =>
            obtain ⟨rfl, hq⟩ := hr₂; repeat (any_goals (first | assumption | wp_step))
          | _ => exact hr₂.elim
    | _ => exact hr.elim
end
section
variable {prog : Program} {w : World} {K : Type} [DecidableEq K] {kn : KeyKind prog w K} {A : Around} {E : Value → Shared → Prop} {s : Shared}
theorem sub_dict_set : isSubtype (Value.type "dict") (.type "set") = pure false := by rw [isSubtype_type]; kernel_rfl
theorem sub_dict_frz : isSubtype (.type "dict") (.type "frozenset") = pure false := by rw [isSubtype_type]; kernel_rfl
theorem set_room {S : Addr} {led : Bool} {n m : Nat} {Q : Unit → Shared → Prop} (hled : led = !(w.params.followText "set-order")) (hS : s.heap.get? S = some (freshSet led)) (hl : n ≤ 36) (hm : m = n) (h : ∀ h', Heap.SameBut S s.heap h' → SetOfT kn h' S [] → Q () { s with heap := h' }) :
    wpAny (model prog w) A (setRoomFor S m) Q E s := by
  subst hm
  have T0 := Tab.fresh 0 0 led
  have S0 : SetAt kn s.heap [] #[] (SetTable.fresh 0 0 led) := ⟨rfl, fun x hx => by simp at hx, List.nodup_nil, T0, by show 0 * 5 < 7 * 3; decide⟩
  unfold setRoomFor
  refine wpAny_bind (wpAny_setState_of hS rfl S0.fits ?_)
  dsimp only
  cases e : (SetTable.fresh 0 0 led).roomFor m with
  | none =>
    dsimp only
    refine wpAny_pure ?_
    have := h s.heap (Heap.SameBut.refl _ _) ⟨_, _, _, _, hS, ⟨rfl, rfl, rfl⟩, rfl, S0, (Or.inl (Nat.zero_le 1)), hled⟩
    have e : s = { s with heap := s.heap } := (by cases s; rfl); rw [e]; exact this
  | some wanted =>
    dsimp only
    have hw : wanted = m * 2 ∧ 4 < m := by
      unfold SetTable.roomFor at e
      split at e
      · rename_i c
        have c : (0 + m) * 5 ≥ 7 * 3 := c
        cases e
        exact ⟨by show (0 + m) * 2 = m * 2; omega, by omega⟩
      · cases e
    obtain ⟨g1, g2, g3⟩ := double_mask (n := m) (by omega)
    rw [hw.1]
    refine set_relay (kn := kn) (xs := []) hS ⟨rfl, rfl, rfl⟩ rfl rfl S0.fits (fun x hx => by simp at hx) List.nodup_nil g1 g3 (by simp; omega) (Nat.zero_le _) fun h' o' es' ep' t' xs' sb ho' hex' hd' px S' pl ld mk => ?_
    have : xs' = [] := List.Perm.eq_nil px
    subst this
    exact h h' sb ⟨o', es', ep', t', ho', hex', hd', S', Or.inl (Nat.zero_le 1), by rw [ld]; exact hled⟩
theorem upd_dict {d S : Addr} {xs : List (List K × Addr × Value)} {led : Bool} {Q : Unit → Shared → Prop} (hu : A.units < cLine) (hled : led = !(w.params.followText "set-order")) (hS : s.heap.get? S = some (freshSet led)) (hd : s.heap.DictOfH (tupleKind kn) d xs) (hm : (d == sysModules) = false) (hl : xs.length ≤ 36)
    (htx : ∀ x ∈ xs, Texty s.heap x.2.1) (h : ∀ h' ys, Heap.SameBut S s.heap h' → SetOfT kn h' S ys → ys.Perm (xs.map fun x => (x.1, x.2.1)) → Q () { s with heap := h' }) :
    wpAny (model prog w) A (Builtin.Frozenset.updateFrom "set.__init__" S (.ref d)) Q E s := by
  have hT := hd.typeIs
  unfold Builtin.Frozenset.updateFrom Builtin.Frozenset.isAnySet
  have h1 := sub_dict_set
  have h2 := sub_dict_frz
  generalize hPI : setRoomFor = PI
  wp_walk
  subst hPI
  have hd0 := hd
  obtain ⟨od, es, ep, hod, hxd, hdd, hes, hik, hnd⟩ := hd
  refine wpAny_loadPart hod ?_
  rw [hdd]
  dsimp only
  refine wpAny_pure ?_
  have hsz : es.size = xs.length := (by rw [← Array.length_toList, hes, List.length_map]); refine wpAny_bind (wpAny_dictEntries hod hdd ?_)
  have hne : d ≠ S := by
    rintro rfl
    rw [hod] at hS
    cases hS
    cases hdd
  refine wpAny_bind (set_room (kn := kn) hled hS hl hsz fun h1 sb1 S1 => ?_)
  have hod1 : h1.get? d = some od := (sb1.2 d hne).trans hod
  refine wpAny_bind (wpAny_dictEntries (s := { s with heap := h1 }) hod1 hdd ?_)
  rw [hsz]
  refine wpAny_bind ?_
  rw [Std.Legacy.Range.forIn_eq_forIn_range']; simp only [Std.Legacy.Range.size, Nat.sub_zero, Nat.add_sub_cancel, Nat.div_one]
  refine wpAny_forIn_list _
    (fun rest _ s' => ∃ h' i ys, s' = { s with heap := h' } ∧ rest = List.range' i (xs.length - i) ∧ i ≤ xs.length ∧ Heap.SameBut S s.heap h' ∧ SetOfT kn h' S ys ∧ ys.Perm ((xs.take i).map fun x => (x.1, x.2.1)))
    _ ?_ ?_ _ _ ⟨h1, 0, [], rfl, by simp, Nat.zero_le _, sb1, S1, by simp⟩
  · rintro x rest b s' ⟨h', i, ys, rfl, hr, hi, hs', hSy, hp⟩
    have hlt : i < xs.length := by
      rcases Nat.lt_or_ge i xs.length with h | h
      · exact h
      · simp [Nat.sub_eq_zero_of_le h] at hr
    obtain ⟨rfl, hrest⟩ : x = i ∧ rest = List.range' (i + 1) (xs.length - (i + 1)) := by
      have e : xs.length - i = (xs.length - (i + 1)) + 1 := by omega
      rw [e, List.range'_succ] at hr; injection hr with h1 h2
      exact ⟨h1, h2⟩
    have hod' : h'.get? d = some od := (hs'.2 d hne).trans hod
    refine wpAny_bind (wpAny_dictEntries (s := { s with heap := h' }) hod' hdd ?_)
    have hxi : xs[x]? = some xs[x] := List.getElem?_eq_getElem hlt
    have hex : es[x]? = some (entryOfKey (tupleKind kn) xs[x]) := by rw [← Array.getElem?_toList, hes, List.getElem?_map, hxi]; rfl
    rw [hex]
    dsimp only
    have hmem : xs[x] ∈ xs := List.getElem_mem hlt
    have tup' : ∀ y ∈ xs, IsTupleKey kn h' y.1 y.2.1 := fun y hy => by
      obtain ⟨o1, it, n1, a1, a2, a3, a4⟩ := hik y hy
      have ne : y.2.1 ≠ S := by
        intro e
        rw [e, hS] at a1
        cases a1
        cases a3
      exact ⟨o1, it, n1, (hs'.2 _ ne).trans a1, a2, a3, a4⟩
    have txt' : ∀ y ∈ xs, Texty h' y.2.1 := fun y hy => by
      obtain ⟨o1, it, n1, a1, a2, a3, a4⟩ := htx y hy
      have ne : y.2.1 ≠ S := by
        intro e
        rw [e, hS] at a1
        cases a1
        cases a3
      exact ⟨o1, it, n1, (hs'.2 _ ne).trans a1, a2, a3, a4⟩
    have hlen : ys.length = x := by
      rw [hp.length_eq, List.length_map, List.length_take]
      omega
    have hnin : xs[x].1 ∉ ys.map (·.1) := by
      intro hin
      have : xs[x].1 ∈ (xs.take x).map (·.1) := by
        have := (hp.map (·.1)).mem_iff.mp hin
        rw [List.map_map] at this
        exact this
      obtain ⟨y, hy, e⟩ := List.mem_map.mp this
      obtain ⟨m, hm⟩ := List.getElem?_of_mem hy
      rw [List.getElem?_take] at hm
      split at hm
      · rename_i lt
        have l1 : m < xs.length := by omega
        rw [List.getElem?_eq_getElem l1] at hm
        cases hm
        have := List.pairwise_iff_getElem.mp (List.nodup_iff_pairwise_ne.mp hnd) m x (by simpa using l1) (by simpa using hlt) lt
        simp only [List.getElem_map] at this
        exact this e
      · cases hm
    show wpAny _ _ (holding [Value.ref xs[x].2.1] (setAddHashed S (.ref xs[x].2.1) (tupleKeyHash kn xs[x].1)) >>= _) _ _ _
    refine wpAny_bind (wpAny_holding (set_add (s := { s with heap := h' }) hu hSy (tup' _ hmem) (txt' _ hmem) (by omega) fun r h'' ys' sb'' hSy' _ hperm => ?_))
    have hod'' : h''.get? d = some od := (sb''.2 d hne).trans hod'
    refine wpAny_bind (wpAny_dictEpoch (s := { s with heap := h'' }) hod'' hdd ?_)
    rw [if_neg (by simp)]
    refine wpAny_pure ⟨h'', x + 1, ys', rfl, hrest, hlt, hs'.trans sb'', hSy', ?_⟩
    refine (hperm hnin).trans ?_
    rw [List.take_succ, hxi, Option.toList_some, List.map_append, List.map_cons, List.map_nil]
    exact (List.perm_append_comm (l₁ := [(xs[x].1, xs[x].2.1)]) (l₂ := ys)).trans (hp.append_right _)
  · rintro b s' ⟨h', i, ys, rfl, hr, hi, hs', hSy, hp⟩
    have hin : i = xs.length := by
      rcases Nat.lt_or_ge i xs.length with hlt | h
      · rw [show xs.length - i = (xs.length - (i + 1)) + 1 by omega, List.range'_succ] at hr
        simp at hr
      · omega
    subst hin
    rw [List.take_length] at hp
    exact wpAny_pure (h h' ys hs' hSy hp)
end
end LS
set_option maxRecDepth 100000
set_option maxHeartbeats 3200000
namespace LS
open PySem PyProof.Rows
theorem eraseIdx_perm {α : Type} : ∀ {l : List α} {i : Nat} {x : α}, l[i]? = some x → l.Perm (x :: l.eraseIdx i)
  | [], i, x, h => by simp at h
  | a :: l, 0, x, h => by simp at h; subst h; exact .refl _
  | a :: l, i + 1, x, h => by
    have h : l[i]? = some x := by simpa using h
    exact ((eraseIdx_perm h).cons a).trans (.swap _ _ _)
section
variable {A : Around} {M : Model} {E : Value → Shared → Prop} {s : Shared}
theorem any_choose {src : Source} {n : Nat} {Q : Nat → Shared → Prop} (hn : n ≠ 0) (h : ∀ i d', i < n → Q i { s with drawn := d' }) : wpAny M A (choose src n) Q E s :=
  fun Γ p _ => ⟨hn, h _ _ (Nat.mod_lt _ (Nat.pos_of_ne_zero hn))⟩
theorem draw_perm {α : Type} : ∀ (n : Nat) (xs : List α) {s : Shared} {Q : List α → Shared → Prop}, xs.length ≤ n → (∀ l d', l.Perm xs → Q l { s with drawn := d' }) → wpAny M A (drawOrder n xs) Q E s
  | 0, xs, s, Q, hl, h => by
    have : xs = [] := List.length_eq_zero_iff.mp (by omega)
    subst this
    unfold drawOrder
    exact wpAny_pure (h [] s.drawn (.refl _))
  | n + 1, [], s, Q, hl, h => by
    unfold drawOrder
    exact wpAny_pure (h [] s.drawn (.refl _))
  | n + 1, x :: xs, s, Q, hl, h => by
    unfold drawOrder
    refine wpAny_bind (any_choose (by simp) fun i d' hi => ?_)
    obtain ⟨y, hy⟩ : ∃ y, (x :: xs)[i]? = some y := ⟨_, List.getElem?_eq_getElem hi⟩
    rw [hy]
    dsimp only
    have hlen : ((x :: xs).eraseIdx i).length ≤ n := by
      have := (eraseIdx_perm hy).length_eq
      simp only [List.length_cons] at this hl
      omega
    refine wpAny_bind (draw_perm n _ hlen fun l d'' hp => wpAny_pure ?_)
    exact h (y :: l) d'' ((hp.cons y).trans (eraseIdx_perm hy).symm)
end
theorem pick_go {α : Type} (next : Nat → Nat) : ∀ (fuel k : Nat) (left : List α) (out : Array α), left.length ≤ fuel → (pickOrder.go next fuel k left out).toList.Perm (out.toList ++ left)
  | 0, k, left, out, h => by
    have : left = [] := List.length_eq_zero_iff.mp (by omega)
    subst this
    unfold pickOrder.go
    simp
  | fuel + 1, k, left, out, h => by
    unfold pickOrder.go
    cases left with
    | nil => simp
    | cons a r =>
      have hi : next k % (a :: r).length < (a :: r).length := Nat.mod_lt _ (by simp)
      rw [List.getElem?_eq_getElem hi]
      dsimp only
      have hp := eraseIdx_perm (List.getElem?_eq_getElem hi)
      refine (pick_go next fuel (k + 1) _ _ (by have := hp.length_eq; simp only [List.length_cons] at this h ⊢; omega)).trans ?_
      rw [Array.toList_push, List.append_assoc]
      exact (hp.symm).append_left _
theorem pick_perm {α : Type} (next : Nat → Nat) (xs : Array α) : (pickOrder next xs).toList.Perm xs.toList := by
  have := pick_go next xs.size 0 xs.toList #[] (by simp)
  simpa [pickOrder] using this
section
variable {prog : Program} {w : World} {K : Type} [DecidableEq K] {kn : KeyKind prog w K} {A : Around} {E : Value → Shared → Prop} {s : Shared}
theorem set_walk {a : Addr} {o : Obj} {es : Array (Int × Value)} {ep : Nat} {t : SetTable} {xs : List (List K × Addr)} {Q : Array (Int × Value) → Shared → Prop} (ho : s.heap.get? a = some o) (hd : o.data = .set es ep t) (S : SetAt kn s.heap xs es t) (hpl : Flags w xs.length t)
    (h : ∀ es' d', es'.toList.Perm es.toList → Q es' { s with drawn := d' }) : wpAny (model prog w) A (setWalk a) Q E s := by
  unfold setWalk setsByText
  refine wpAny_bind (wpAny_setState_of ho hd S.fits ?_)
  dsimp only
  refine wpAny_bind (wpAny_bind (wpAny_askSetting (wpAny_pure ?_))); split
  · refine wpAny_bind (wpAny_askSetting (wpAny_pure ?_))
    have := h (pickOrder (w.params.setOrder a ep) es) s.drawn (pick_perm _ _)
    exact this
  · show wpAny _ _ (if (!t.plain && decide (es.size > 1)) = true then _ else _) _ _ _
    by_cases c : (!t.plain && decide (es.size > 1)) = true
    · rw [if_pos c]
      refine wpAny_bind (draw_perm _ _ (by simp) fun l d' hp => wpAny_pure ?_)
      exact h l.toArray d' (by simpa using hp)
    · rw [if_neg c]
      have small : ¬ es.size > 1 := fun z => by
        rcases hpl.1 with q | q
        · rw [S.size] at z; omega
        · rw [q] at c; simp at c; omega
      show wpAny _ _ ((if (!t.led && decide (es.size > 1)) = true then (unsupported "set:maker-not-led" : Sem Unit) else pure ()) >>= fun _ => pure es) _ _ _
      rw [if_neg (by simp [small])]
      refine wpAny_bind (wpAny_pure (wpAny_pure ?_)); exact h es s.drawn (.refl _)
theorem set_walkU {a f : Addr} {o : Obj} {es : Array (Int × Value)} {ep : Nat} {t : SetTable} {xs : List (List K × Addr)} {Q : Array (Int × Value) → Shared → Prop} (ho : s.heap.get? a = some o) (hd : o.data = .set es ep t) (S : SetAt kn s.heap xs es t) (hpl : Flags w xs.length t)
    (h : ∀ es' d', es'.toList.Perm es.toList → Q es' { s with drawn := d' }) : wpAny (model prog w) A (setWalkUnseen a [f] (some f)) Q E s := by
  unfold setWalkUnseen setsByText
  refine wpAny_bind (wpAny_setState_of ho hd S.fits ?_)
  dsimp only
  refine wpAny_bind (wpAny_bind (wpAny_askSetting (wpAny_pure ?_))); split
  · exact set_walk ho hd S hpl h
  · rename_i c
    have big : 1 < es.size := by
      apply Classical.byContradiction
      intro z
      apply c
      simp
      omega
    have quiet : wpAny (model prog w) A (setsQuiet [a, f]) (fun r s' => r = false ∧ s' = s) E s := by
      unfold setsQuiet
      refine wpAny_bind ?_
      simp only [List.forIn_cons]
      refine wpAny_bind ?_
      refine wpAny_bind (wpAny_setEntries_of ho hd S.fits ?_)
      rw [← Array.forIn_toList, S.es]
      cases xs with
      | nil => rw [S.size] at big; simp at big
      | cons x0 r0 =>
        rw [List.map_cons, List.forIn_cons]
        refine wpAny_bind (wpAny_bind ?_); dsimp only
        have hT := (S.is x0 (by simp)).typeIs
        refine wpAny_bind (wpAny_specialOf hT PySem.F.slot_tuple_eq.lookup ?_)
        rw [if_pos (by decide +kernel)]
        refine wpAny_pure ?_
        dsimp only
        refine wpAny_pure ?_
        dsimp only
        refine wpAny_pure ?_
        dsimp only
        refine wpAny_pure ?_
        dsimp only
        exact wpAny_pure ⟨rfl, rfl⟩
    refine wpAny_bind (wpAny_mono quiet (fun r s' ⟨h1, h2⟩ => ?_) (fun _ _ x => x))
    subst h1 h2
    simp only [Bool.not_false, if_true]; exact set_walk ho hd S hpl h
theorem set_room2 {a : Addr} {o : Obj} {es : Array (Int × Value)} {ep : Nat} {t : SetTable} {xs : List (List K × Addr)} {m : Nat} {Q : Unit → Shared → Prop} (ho : s.heap.get? a = some o) (hex : o.ExactSet) (hd : o.data = .set es ep t) (S : SetAt kn s.heap xs es t) (hl : xs.length + m ≤ 60)
    (h : ∀ h' o' es' ep' t' xs', Heap.SameBut a s.heap h' → h'.get? a = some o' → o'.ExactSet → o'.data = .set es' ep' t' → xs'.Perm xs → SetAt kn h' xs' es' t' → t'.plain = t.plain → t'.led = t.led → (xs.length + m) * 5 < t'.mask * 3 → Q () { s with heap := h' }) :
    wpAny (model prog w) A (setRoomFor a m) Q E s := by
  unfold setRoomFor
  refine wpAny_bind (wpAny_setState_of ho hd S.fits ?_)
  dsimp only
  have hlen := S.tab.len
  rw [List.length_map] at hlen
  have hfill : t.fill = xs.length := by
    unfold SetTable.fill
    rw [S.tab.dum]
    simp at hlen ⊢
    exact hlen
  cases e : t.roomFor m with
  | none =>
    dsimp only
    refine wpAny_pure ?_
    have big : (xs.length + m) * 5 < t.mask * 3 := by
      unfold SetTable.roomFor at e
      split at e
      · cases e
      · rename_i c
        rw [hfill] at c
        omega
    have := h s.heap o es ep t xs (Heap.SameBut.refl _ _) ho hex hd (.refl _) S rfl rfl big
    have e : s = { s with heap := s.heap } := (by cases s; rfl); rw [e]; exact this
  | some wanted =>
    dsimp only
    have hw : wanted = (xs.length + m) * 2 ∧ t.mask * 3 ≤ (xs.length + m) * 5 := by
      unfold SetTable.roomFor at e
      split at e
      · rename_i c
        rw [hfill] at c
        cases e
        refine ⟨?_, c⟩
        rw [show t.place.size = xs.length by simpa using hlen]
      · cases e
    have hm7 : 7 ≤ t.mask := by rcases S.tab.mask with z | z | z | z | z <;> omega
    obtain ⟨g1, g2, g3⟩ := double_mask (n := xs.length + m) (by omega)
    rw [hw.1]
    refine set_relay (kn := kn) (xs := xs) ho hex hd S.es S.fits S.is S.nd g1 g3 (by omega) (by omega) fun h' o' es' ep' t' xs' sb ho' hex' hd' px S' pl ld mk => ?_
    exact h h' o' es' ep' t' xs' sb ho' hex' hd' px S' pl ld (by rw [mk]; omega)
end
end LS
set_option maxRecDepth 100000
set_option maxHeartbeats 3200000
namespace LS
open PySem PyProof.Rows
structure Both {K : Type} (zs xs ys : List (List K × Addr)) : Prop where
  from_ : ∀ z ∈ zs, z ∈ xs ∨ z ∈ ys
  keys : ∀ k, k ∈ zs.map (·.1) ↔ k ∈ xs.map (·.1) ∨ k ∈ ys.map (·.1)
section
variable {prog : Program} {w : World} {K : Type} [DecidableEq K] {kn : KeyKind prog w K} {A : Around} {E : Value → Shared → Prop} {s : Shared}
theorem keep_set {h h' : Heap} {a b : Addr} {xs : List (List K × Addr)} {oa : Obj} {ea : Array (Int × Value)} {pa : Nat} {ta : SetTable} (hoa : h.get? a = some oa) (hda : oa.data = .set ea pa ta) (hb : SetOfT kn h b xs) (hab : a ≠ b) (sb : Heap.SameBut a h h') : SetOfT kn h' b xs := by
  obtain ⟨o, es, ep, t, h1, h2, h3, S, h5⟩ := hb
  exact ⟨o, es, ep, t, (sb.2 b (Ne.symm hab)).trans h1, h2, h3, ⟨S.es, fun x hx => keep_tup hoa hda sb (S.is x hx), S.nd, S.tab, S.cap⟩, h5⟩
theorem keep_txt {h h' : Heap} {a : Addr} {o : Obj} {es : Array (Int × Value)} {ep : Nat} {t : SetTable} {b : Addr} (ho : h.get? a = some o) (hd : o.data = .set es ep t) (hs : Heap.SameBut a h h') (k : Texty h b) : Texty h' b := by
  obtain ⟨o', items, n, h1, h2, h3, h4⟩ := k
  have ne : b ≠ a := by
    rintro rfl
    rw [ho] at h1
    cases h1
    rw [hd] at h3
    cases h3
  exact ⟨o', items, n, (hs.2 b ne).trans h1, h2, h3, h4⟩
theorem set_merge {a b : Addr} {xs ys : List (List K × Addr)} {each : Sem Unit} {Q : Unit → Shared → Prop} (hu : A.units < cLine) (ha : SetOfT kn s.heap a xs) (hb : SetOfT kn s.heap b ys) (hab : a ≠ b) (htx : ∀ y ∈ ys, Texty s.heap y.2) (hl : xs.length + ys.length ≤ 36)
    (heach : ∀ (s' : Shared) (R : Unit → Shared → Prop), s'.heap.get? b = s.heap.get? b → R () s' → wpAny (model prog w) A each R E s')
    (h : ∀ h' d' zs, Heap.SameBut a s.heap h' → SetOfT kn h' a zs → Both zs xs ys → Q () { s with heap := h', drawn := d' }) :
    wpAny (model prog w) A (setMerge a b each) Q E s := by
  obtain ⟨oa, ea, pa, ta, hoa, hxa, hda, Sa, hpa⟩ := ha
  have hb0 := hb
  obtain ⟨ob, eb, pb, tb, hob, hxb, hdb, Sb, hpb⟩ := hb
  have same : s = { s with heap := s.heap, drawn := s.drawn } := by cases s; rfl
  unfold setMerge
  rw [if_neg (by simpa using hab)]
  refine wpAny_bind (wpAny_setState_of hob hdb Sb.fits ?_)
  dsimp only
  have hsz := Sb.size
  cases ys with
  | nil =>
    have : eb = #[] := Array.eq_empty_of_size_eq_zero (by simpa using hsz)
    subst this
    simp only [Array.isEmpty_empty, if_true]
    refine wpAny_pure ?_
    rw [same]
    exact h s.heap s.drawn xs (Heap.SameBut.refl _ _) ⟨oa, ea, pa, ta, hoa, hxa, hda, Sa, hpa⟩ ⟨fun z hz => .inl hz, fun k => by simp⟩
  | cons y0 yr =>
    generalize hys : y0 :: yr = ys at *
    have hyl : 0 < ys.length := by rw [← hys]; simp
    have hne : eb.isEmpty = false := by
      rw [Bool.eq_false_iff]
      intro z
      have := Array.isEmpty_iff_size_eq_zero.mp z
      omega
    rw [hne]
    simp only [Bool.false_eq_true, if_false]; rw [hsz]
    refine wpAny_bind (set_room2 hoa hxa hda Sa (m := ys.length) (by omega) fun h1 o1 e1 p1 t1 xs1 sb1 ho1 hx1 hd1 px S1 pl1 ld1 big => ?_)
    have hb1 : SetOfT kn h1 b ys := keep_set hoa hda hb0 hab sb1
    have hob1 : h1.get? b = some ob := (sb1.2 b (Ne.symm hab)).trans hob
    have tx1 : ∀ y ∈ ys, Texty h1 y.2 := fun y hy => keep_txt hoa hda sb1 (htx y hy)
    have is1 : ∀ y ∈ ys, IsTupleKey kn h1 y.1 y.2 := fun y hy => keep_tup hoa hda sb1 (Sb.is y hy)
    have SB1 : SetAt kn h1 ys eb tb := ⟨Sb.es, is1, Sb.nd, Sb.tab, Sb.cap⟩
    refine wpAny_bind (wpAny_setState_of (s := { s with heap := h1 }) ho1 hd1 S1.fits ?_)
    dsimp only
    have hlen := S1.tab.len
    rw [List.length_map] at hlen
    have hfill : t1.fill = xs1.length := by
      unfold SetTable.fill
      rw [S1.tab.dum]
      simp at hlen ⊢
      exact hlen
    have hpl1 : Flags w xs1.length t1 := by unfold Flags; rw [px.length_eq, pl1, ld1]; exact hpa
    by_cases empty : xs1 = []
    · -- a new one: laid over, or laid anew
      subst empty
      have hxs : xs = [] := px.symm.eq_nil
      subst hxs
      have hf0 : (t1.fill != 0) = false := by rw [hfill]; rfl
      have both : ∀ zs : List (List K × Addr), zs.Perm ys → Both zs [] ys := fun zs hp => ⟨fun z hz => .inr (hp.mem_iff.mp hz), fun k => by
        rw [(hp.map (·.1)).mem_iff]; simp⟩
      unfold SetTable.road
      rw [hf0]
      simp only [Bool.false_eq_true, if_false]; by_cases c : (t1.mask == tb.mask && tb.dummies.isEmpty) = true
      · rw [if_pos c]
        dsimp only
        refine wpAny_storeSet_of ho1 hd1 ?_ (by rw [hsz, sizeLine_eq]; omega)
        have sb2 := Heap.SameBut.update h1 a (Obj.putSet eb { tb with finger := t1.finger, led := t1.led && tb.led, moves := t1.moves, plain := t1.plain && tb.plain })
        have T2 : Tab { tb with finger := t1.finger, led := t1.led && tb.led, moves := t1.moves, plain := t1.plain && tb.plain } (ys.map fun x => tupleKeyHash kn x.1) :=
          ⟨Sb.tab.mask, Sb.tab.dum, Sb.tab.pw, Sb.tab.le, Sb.tab.len, Sb.tab.room, Sb.tab.way⟩
        refine h _ s.drawn ys (sb1.trans sb2) ⟨_, eb, _, _, stored ho1 hd1 _ _, hx1, rfl, ⟨Sb.es, fun x hx => keep_tup ho1 hd1 sb2 (is1 x hx), Sb.nd, T2, Sb.cap⟩, ?_⟩ (both ys (.refl _))
        refine ⟨?_, by show (t1.led && tb.led) = _; rw [hpl1.2, hpb.2, Bool.and_self]⟩
        rcases hpb.1 with q | q
        · exact .inl q
        · exact .inr (by show (t1.plain && tb.plain) = false; rw [q, Bool.and_false])
      · rw [if_neg c]
        dsimp only
        simp only [List.length_nil, Nat.zero_add] at big
        have hm7 : 7 ≤ t1.mask := by rcases S1.tab.mask with z | z | z | z | z <;> omega
        obtain ⟨t', order, e, e1', e2, e3, e4, e5, perm, tab⟩ := laid_ok S1.tab.mask eb (by omega) t1.finger t1.moves (t1.led && tb.led) (t1.plain && tb.plain)
        rw [e]
        have hs' : (order.filterMap (fun k => eb[k]?)).size = eb.size := by rw [← Array.length_toList, perm.length_eq, Array.length_toList]
        obtain ⟨ys', py, ey⟩ : ∃ ys' : List (List K × Addr), ys'.Perm ys ∧ (order.filterMap (fun k => eb[k]?)).toList = ys'.map fun x => (tupleKeyHash kn x.1, Value.ref x.2) := by
          rw [Sb.es] at perm
          obtain ⟨l, q1, q2⟩ := perm_map_inv perm
          exact ⟨l, q2, q1⟩
        refine wpAny_bind ?_
        refine wpAny_mono (Q := fun r s' => r = (order.filterMap (fun k => eb[k]?), t') ∧ { s with heap := h1 } = s') ?_ ?_ (fun _ _ x => x)
        · show wpAny _ _ (if ((order.filterMap (fun k => eb[k]?)).size != eb.size) = true then _ else _) _ _ _
          rw [if_neg (by rw [hs']; simp)]
          exact wpAny_pure ⟨rfl, rfl⟩
        · rintro _ _ ⟨rfl, rfl⟩
          dsimp only
          refine wpAny_storeSet_of (s := { s with heap := h1 }) ho1 hd1 ?_ (by rw [hs', hsz, sizeLine_eq]; omega)
          have sb2 := Heap.SameBut.update h1 a (Obj.putSet (order.filterMap (fun k => eb[k]?)) t')
          refine h _ s.drawn ys' (sb1.trans sb2) ⟨_, _, _, _, stored ho1 hd1 _ _, hx1, rfl, ⟨ey, fun x hx => keep_tup ho1 hd1 sb2 (is1 x (py.mem_iff.mp hx)), (py.map _).nodup_iff.mpr Sb.nd, ?_, ?_⟩, ?_⟩ (both ys' py)
          · rw [ey, List.map_map] at tab
            exact tab
          · rw [py.length_eq, e1']
            exact big
          · rw [py.length_eq]
            refine ⟨?_, by rw [e2, hpl1.2, hpb.2, Bool.and_self]⟩
            rcases hpb.1 with q | q
            · exact .inl q
            · exact .inr (by rw [e3, q, Bool.and_false])
    · -- one by one
      have hf0 : (t1.fill != 0) = true := by
        rw [hfill]
        have : 0 < xs1.length := List.length_pos_iff.mpr empty
        simp
        omega
      have er : t1.road tb = .oneByOne := by unfold SetTable.road; rw [if_pos hf0]
      rw [er]
      dsimp only
      refine wpAny_bind (set_walkU (s := { s with heap := h1 }) hob1 hdb SB1 hpb fun es' d1 hp => ?_)
      rw [Sb.es] at hp
      obtain ⟨ys', ey, py⟩ := perm_map_inv hp
      rw [← Array.forIn_toList, ey]
      have ylen := py.length_eq
      refine wpAny_bind (wpAny_mono (wpAny_forIn_list _
        (fun rest _ s' => ∃ h' i zs, s' = { s with heap := h', drawn := d1 } ∧ rest = (ys'.drop i).map (fun x => (tupleKeyHash kn x.1, Value.ref x.2)) ∧ i ≤ ys'.length ∧ Heap.SameBut a s.heap h' ∧ SetOfT kn h' a zs ∧ Both zs xs (ys'.take i) ∧ zs.length ≤ xs.length + i)
        (fun _ s' => ∃ h' zs, s' = { s with heap := h', drawn := d1 } ∧ Heap.SameBut a s.heap h' ∧ SetOfT kn h' a zs ∧ Both zs xs ys') ?_ ?_ _ _ ⟨h1, 0, xs1, rfl, rfl, Nat.zero_le _, sb1, ⟨o1, e1, p1, t1, ho1, hx1, hd1, S1, hpl1⟩, ⟨fun z hz => .inl (px.mem_iff.mp hz), fun k => by rw [(px.map (·.1)).mem_iff]; simp⟩, by rw [px.length_eq]; omega⟩) ?_ (fun _ _ x => x))
      · rintro x rest b' s' ⟨h', i, zs, rfl, hr, hi, hs', hSz, bth, zl⟩
        have hlt : i < ys'.length := by
          rcases Nat.lt_or_ge i ys'.length with q | q
          · exact q
          · rw [List.drop_eq_nil_of_le q] at hr; simp at hr
        rw [List.drop_eq_getElem_cons hlt, List.map_cons] at hr
        obtain ⟨rfl, hrest⟩ := List.cons.inj hr
        dsimp only
        have hmem : ys'[i] ∈ ys := py.mem_iff.mp (List.getElem_mem hlt)
        have hk : IsTupleKey kn h' ys'[i].1 ys'[i].2 := keep_tup hoa hda hs' (Sb.is _ hmem)
        have hv : Texty h' ys'[i].2 := keep_txt hoa hda hs' (htx _ hmem)
        refine wpAny_bind (wpAny_holding (set_add (s := { s with heap := h', drawn := d1 }) hu hSz hk hv (by omega) fun r h'' zs' sb'' hSz' hin hnin => ?_))
        have hob2 : h''.get? b = some ob := (sb''.2 b (Ne.symm hab)).trans ((hs'.2 b (Ne.symm hab)).trans hob)
        refine wpAny_bind (heach _ _ (by show h''.get? b = _; rw [hob2, hob]) ?_)
        refine wpAny_bind (wpAny_setState_of (s := { s with heap := h'', drawn := d1 }) hob2 hdb Sb.fits ?_)
        dsimp only
        rw [if_neg (by simp)]
        refine wpAny_pure ⟨h'', i + 1, zs', rfl, hrest, hlt, hs'.trans sb'', hSz', ?_, ?_⟩
        · rw [List.take_succ, List.getElem?_eq_getElem hlt, Option.toList_some]
          by_cases c : ys'[i].1 ∈ zs.map (·.1)
          · rw [hin c]
            refine ⟨fun z hz => ?_, fun k => ?_⟩
            · rcases bth.from_ z hz with q | q
              · exact .inl q
              · exact .inr (List.mem_append_left _ q)
            · rw [bth.keys k, List.map_append, List.mem_append, List.map_cons, List.map_nil, List.mem_singleton]
              constructor
              · rintro (q | q)
                · exact .inl q
                · exact .inr (.inl q)
              · rintro (q | q | q)
                · exact .inl q
                · exact .inr q
                · subst q; exact (bth.keys _).mp c
          · have pz := hnin c
            refine ⟨fun z hz => ?_, fun k => ?_⟩
            · rcases List.mem_cons.mp (pz.mem_iff.mp hz) with q | q
              · exact .inr (List.mem_append_right _ (by rw [q]; simp))
              · rcases bth.from_ z q with q | q
                · exact .inl q
                · exact .inr (List.mem_append_left _ q)
            · rw [(pz.map (·.1)).mem_iff, List.map_cons, List.mem_cons, bth.keys k, List.map_append, List.mem_append, List.map_cons, List.map_nil, List.mem_singleton]
              constructor
              · rintro (q | q | q)
                · exact .inr (.inr q)
                · exact .inl q
                · exact .inr (.inl q)
              · rintro (q | q | q)
                · exact .inr (.inl q)
                · exact .inr (.inr q)
                · exact .inl q
        · by_cases c : ys'[i].1 ∈ zs.map (·.1)
          · rw [hin c]; omega
          · rw [(hnin c).length_eq, List.length_cons]; omega
      · rintro b' s' ⟨h', i, zs, rfl, hr, hi, hs', hSz, bth, zl⟩
        have hin : i = ys'.length := by
          rcases Nat.lt_or_ge i ys'.length with q | q
          · rw [List.drop_eq_getElem_cons q, List.map_cons] at hr; cases hr
          · omega
        subst hin
        rw [List.take_length] at bth
        exact ⟨h', zs, rfl, hs', hSz, bth⟩
      · rintro _ s' ⟨h', zs, rfl, hs', hSz, bth⟩
        refine wpAny_pure ?_
        exact h h' d1 zs hs' hSz ⟨fun z hz => (bth.from_ z hz).imp id fun q => py.mem_iff.mp q, fun k => by rw [bth.keys k, (py.map (·.1)).mem_iff]⟩
end
end LS
set_option maxRecDepth 100000
set_option maxHeartbeats 3200000
namespace LS
open PySem PyProof.Rows
theorem entry_set_or : entryFor table "set.__or__" = some Builtin.«frozenset.__or__» :=
  entryFor_alias (id' := "frozenset.__or__") (by kernel_rfl) rfl (by decide +kernel) (by kernel_rfl)
theorem nodup_le {α : Type} [DecidableEq α] : ∀ {l m : List α}, l.Nodup → (∀ x ∈ l, x ∈ m) → l.length ≤ m.length
  | [], m, _, _ => Nat.zero_le _
  | x :: l, m, hn, hs => by
    rw [List.nodup_cons] at hn
    have hx := hs x (by simp)
    have := nodup_le (l := l) (m := m.erase x) hn.2 fun y hy => (List.mem_erase_of_ne (fun e => hn.1 (by rw [← e]; exact hy))).mpr (hs y (by simp [hy]))
    rw [List.length_erase_of_mem hx] at this
    have := List.length_pos_of_mem hx
    simp only [List.length_cons]
    omega
section
variable {prog : Program} {w : World} {K : Type} [DecidableEq K] {kn : KeyKind prog w K} {A : Around} {E : Value → Shared → Prop} {s : Shared}
theorem SetOfT.typeIs {a : Addr} {xs : List (List K × Addr)} (h : SetOfT kn s.heap a xs) : s.TypeIs (.ref a) "set" := let ⟨o, _, _, _, ho, hx, _⟩ := h; ⟨o, ho, hx.1⟩
theorem isSet {a : Addr} {Q : Bool → Shared → Prop} (hT : s.TypeIs (.ref a) "set") (h : Q true s) : wpAny (model prog w) A (Builtin.Frozenset.isAnySet (.ref a)) Q E s := by
  unfold Builtin.Frozenset.isAnySet
  have h1 := sub_set_self
  wp_walk
  exact h
theorem grow_set {h h' : Heap} {a : Addr} {xs : List (List K × Addr)} (k : ∀ b o, h.get? b = some o → h'.get? b = some o) (hs : SetOfT kn h a xs) : SetOfT kn h' a xs := by
  obtain ⟨o, es, ep, t, h1, h2, h3, S, h5⟩ := hs
  refine ⟨o, es, ep, t, k _ _ h1, h2, h3, ⟨S.es, fun x hx => ?_, S.nd, S.tab, S.cap⟩, h5⟩
  obtain ⟨o', it, n, a1, a2⟩ := S.is x hx
  exact ⟨o', it, n, k _ _ a1, a2⟩
theorem grow_txt {h h' : Heap} {a : Addr} (k : ∀ b o, h.get? b = some o → h'.get? b = some o) (hs : Texty h a) : Texty h' a := by
  obtain ⟨o', it, n, a1, a2⟩ := hs
  exact ⟨o', it, n, k _ _ a1, a2⟩
theorem fresh_set {h : Heap} {a : Addr} {led : Bool} (hled : led = !(w.params.followText "set-order")) (e : h.get? a = some (freshSet led)) : SetOfT kn h a [] :=
  ⟨_, _, _, _, e, ⟨rfl, rfl, rfl⟩, rfl, ⟨rfl, fun x hx => by simp at hx, List.nodup_nil, Tab.fresh 0 0 led, by show 0 * 5 < 7 * 3; decide⟩, Or.inl (Nat.zero_le 1), hled⟩
theorem new_set {Q : Value → Shared → Prop} (h : ∀ led : Bool, led = (!(w.params.followText "set-order")) → Q (.ref s.heap.objs.size) { s with heap := s.heap.push (freshSet led) }) : wpAny (model prog w) A (newSet (.type "set")) Q E s := by
  unfold newSet setsByText
  refine wpAny_bind (wpAny_bind (wpAny_askSetting (wpAny_pure ?_))); dsimp only
  simp only [newObj]
  exact wpAny_bind (wpAny_alloc (wpAny_pure (h _ rfl)))
theorem same_keeps {h h' h0 : Heap} {a : Addr} (k : ∀ b o, h0.get? b = some o → h.get? b = some o) (hn : h0.get? a = none) (sb : Heap.SameBut a h h') : ∀ b o, h0.get? b = some o → h'.get? b = some o := fun b o e => by
  have ne : b ≠ a := by rintro rfl; rw [hn] at e; cases e
  exact (sb.2 b ne).trans (k b o e)
theorem none_size (h : Heap) : h.get? h.objs.size = none := by
  cases e : h.get? h.objs.size with
  | none => rfl
  | some o => exact (Nat.lt_irrefl _ (Heap.lt_size e)).elim
theorem set_copy {l : Addr} {xs : List (List K × Addr)} {Q : Value → Shared → Prop} (hu : A.units < cLine) (hl : SetOfT kn s.heap l xs) (htx : ∀ y ∈ xs, Texty s.heap y.2) (hn : xs.length ≤ 36)
    (h : ∀ h' d' zs, (∀ b o, s.heap.get? b = some o → h'.get? b = some o) → SetOfT kn h' s.heap.objs.size zs → Both zs [] xs → Q (.ref s.heap.objs.size) { s with heap := h', drawn := d' }) :
    wpAny (model prog w) A (Builtin.Frozenset.copyOf l) Q E s := by
  have hT := hl.typeIs
  unfold Builtin.Frozenset.copyOf Builtin.Frozenset.baseOf
  refine wpAny_bind (wpAny_bind (wpAny_isInstance hT sub_set_self ?_))
  simp only [if_true]
  refine wpAny_pure ?_
  refine wpAny_bind (new_set fun led hled => ?_)
  have k0 : ∀ b o, s.heap.get? b = some o → (s.heap.push (freshSet led)).get? b = some o := fun b o e => Heap.get?_push_of_some _ e
  have hS : (s.heap.push (freshSet led)).get? s.heap.objs.size = some (freshSet led) := Heap.get?_push_size _ rfl
  show wpAny _ _ (pure s.heap.objs.size >>= _) _ _ _
  refine wpAny_bind (wpAny_pure ?_); have hll : l < s.heap.objs.size := by obtain ⟨o, _, _, _, ho, _⟩ := hl; exact Heap.lt_size ho
  refine wpAny_bind (set_merge (s := { s with heap := s.heap.push (freshSet led) }) (xs := []) hu (fresh_set hled hS) (grow_set k0 hl) (Nat.ne_of_gt hll) (fun y hy => grow_txt k0 (htx y hy)) (by simpa using hn) (fun s' R _ hR => wpAny_pure hR) fun h' d' zs sb hz bth => wpAny_pure ?_)
  exact h h' d' zs (same_keeps k0 (none_size _) sb) hz bth
theorem set_update {a r : Addr} {xs ys : List (List K × Addr)} {id : String} {Q : Unit → Shared → Prop} (hu : A.units < cLine) (ha : SetOfT kn s.heap a xs) (hr : SetOfT kn s.heap r ys) (har : a ≠ r) (hty : ∀ y ∈ ys, Texty s.heap y.2) (hn : xs.length + ys.length ≤ 36)
    (h : ∀ h' d' zs, Heap.SameBut a s.heap h' → SetOfT kn h' a zs → Both zs xs ys → Q () { s with heap := h', drawn := d' }) :
    wpAny (model prog w) A (Builtin.Frozenset.updateFrom id a (.ref r)) Q E s := by
  unfold Builtin.Frozenset.updateFrom
  refine wpAny_bind (isSet hr.typeIs ?_)
  simp only [if_true]
  show wpAny _ _ (pure r >>= _) _ _ _
  refine wpAny_bind (wpAny_pure ?_); unfold Builtin.Frozenset.merge
  have hr2 := hr
  obtain ⟨o, es, ep, t, ho, hx, hd, S, hp⟩ := hr2
  refine wpAny_bind (wpAny_setEpoch_of ho hd S.fits ?_)
  refine set_merge hu ha hr har hty hn (fun s' R e hR => ?_) h
  unfold Builtin.Frozenset.unchanged
  refine wpAny_bind (wpAny_setEpoch_of (e.trans ho) hd S.fits ?_)
  rw [if_neg (by simp)]
  exact wpAny_pure hR
theorem set_union {l r : Addr} {xs ys : List (List K × Addr)} {Q : Value → Shared → Prop} (hu : A.units + 8 < cLine) (hl : SetOfT kn s.heap l xs) (hr : SetOfT kn s.heap r ys) (hlr : l ≠ r) (htx : ∀ y ∈ xs, Texty s.heap y.2) (hty : ∀ y ∈ ys, Texty s.heap y.2) (hn : xs.length + ys.length ≤ 36)
    (h : ∀ h' d' zs, (∀ b o, s.heap.get? b = some o → h'.get? b = some o) → SetOfT kn h' s.heap.objs.size zs → Both zs xs ys → Q (.ref s.heap.objs.size) { s with heap := h', drawn := d' }) :
    wpAny (model prog w) A (binaryOp .BitOr (.ref l) (.ref r)) Q E s := by
  have hTl := hl.typeIs
  have hTr := hr.typeIs
  refine wpAny_binaryOp_same (T := "set") (op := .BitOr) hTl hTr PySem.F.fills_set_or PySem.F.slot_set_or (wpAny_call_entry PySem.F.slot_set_or hTl entry_set_or ?_ (PySem.F.args_set_or_2 _ _))
  show wpAny _ _ (Builtin.Frozenset.slot1 "__or__" ⟨[.ref l, .ref r], []⟩ >>= _) _ _ _
  unfold Builtin.Frozenset.slot1 slotArgs
  simp only [List.isEmpty_nil, Bool.not_true, Bool.false_eq_true, ↓reduceIte, bind_assoc, List.length_cons, List.length_nil, Nat.zero_add, bne_self_eq_false]
  refine wpAny_bind (wpAny_pure ?_); dsimp only
  refine wpAny_bind (wpAny_pure ?_); dsimp only
  refine wpAny_bind ?_
  unfold andM
  refine wpAny_bind (isSet hTl ?_)
  show wpAny _ _ (Builtin.Frozenset.isAnySet (.ref r)) _ _ _
  refine isSet hTr ?_
  simp only [Bool.not_true, Bool.false_eq_true, if_false]; show wpAny _ _ (pure l >>= _) _ _ _
  refine wpAny_bind (wpAny_pure ?_); refine wpAny_bind ?_
  show wpAny _ _ (Builtin.Frozenset.copyOf l >>= _) _ _ _
  have hu1 : A.in1.units < cLine := by rw [Around.in1_units]; omega
  refine wpAny_bind (set_copy hu1 hl htx (by omega) fun h1 d1 zs k1 hz bz => ?_)
  have hr1 := grow_set k1 hr
  have hrl : r < s.heap.objs.size := by obtain ⟨o, _, _, _, ho, _⟩ := hr; exact Heap.lt_size ho
  have zl : zs.length ≤ xs.length := by
    have := hz
    obtain ⟨_, _, _, _, _, _, _, Sz, _⟩ := hz
    have nd := Sz.nd
    have : (zs.map (·.1)).length ≤ (xs.map (·.1)).length := nodup_le nd fun k hk => by simpa using (bz.keys k).mp hk
    simpa using this
  rw [if_pos (by
    have : r ≠ l := Ne.symm hlr
    simpa using this)]
  show wpAny _ _ (pure s.heap.objs.size >>= _) _ _ _
  refine wpAny_bind (wpAny_pure ?_); refine wpAny_bind (wpAny_holding (set_update (s := { s with heap := h1, drawn := d1 }) hu1 hz hr1 (Nat.ne_of_gt hrl) (fun y hy => grow_txt k1 (hty y hy)) (by omega) fun h2 d2 ws sb hw bw => wpAny_pure ?_))
  refine wpAny_pure ⟨_, rfl, (by intro z; cases z), h h2 d2 ws (same_keeps k1 (none_size _) sb) hw ⟨fun z hz' => ?_, fun k => ?_⟩⟩
  · rcases bw.from_ z hz' with q | q
    · rcases bz.from_ z q with q | q
      · simp at q
      · exact .inl q
    · exact .inr q
  · rw [bw.keys k, bz.keys k]
    simp
end
end LS
set_option maxRecDepth 100000
set_option maxHeartbeats 3200000
namespace LS
open PySem PyProof.Rows
theorem slot_sit_next : Slot "set_iterator" "__next__" "set_iterator.__next__" :=
  .of (owner := "set_iterator") (n := "__next__") (by rw [typeLookup_type, builtinLookup_eq_fast]; kernel_rfl) (by decide +kernel) (by decide +kernel) (by decide +kernel) (by first | exact .inl (by decide +kernel) | exact .inr (by decide +kernel)) (by rw [isSubtype_type]; kernel_rfl)
theorem entry_sit_next : entryFor table "set_iterator.__next__" = some Builtin.«set_iterator.__next__» := entryFor_of_tree (by kernel_rfl)
theorem args_sit_next (a : Value) : argsOk "set_iterator.__next__" ⟨[a], []⟩ := by
  unfold argsOk
  first | kernel_rfl | decide +kernel | (simp only []; kernel_rfl)
theorem slot_sit_iter : Slot "set_iterator" "__iter__" "set_iterator.__iter__" :=
  .of (owner := "set_iterator") (n := "__iter__") (by rw [typeLookup_type, builtinLookup_eq_fast]; kernel_rfl) (by decide +kernel) (by decide +kernel) (by decide +kernel) (by first | exact .inl (by decide +kernel) | exact .inr (by decide +kernel)) (by rw [isSubtype_type]; kernel_rfl)
theorem entry_sit_iter : entryFor table "set_iterator.__iter__" = some Builtin.«dict_keyiterator.__iter__» := entryFor_alias (id' := "dict_keyiterator.__iter__") (by kernel_rfl) rfl (by decide +kernel) (by kernel_rfl)
theorem args_sit_iter (a : Value) : argsOk "set_iterator.__iter__" ⟨[a], []⟩ := by
  unfold argsOk
  first | kernel_rfl | decide +kernel | (simp only []; kernel_rfl)
abbrev itObj (first : Value) (i : Nat) (S : Addr) (n ep : Nat) : Obj := { cls := .type "set_iterator", data := .fields #[first, .int i 0, .ref S, .int n 0, .int ep 0] }
section
variable {w : World} {prog : Program} {A : Around} {E : Value → Shared → Prop} {s : Shared}
theorem it_step {h : Heap} {first : Value} {I S : Addr} {i n ep : Nat} (hI : h.get? I = some (itObj first i S n ep)) : (h.update I (Obj.mapFields fun x => x.setIfInBounds 1 (rawInt (↑i + 1)))).get? I = some (itObj first (i + 1) S n ep) := by
  refine (Heap.get?_update_self _ hI (Obj.isFreed_of_fields (Obj.data_mapFields rfl _))).trans ?_
  simp [Obj.mapFields, rawInt]
theorem next_drawn {I S T : Addr} {o oT : Obj} {es : Array (Int × Value)} {ep i n place : Nat} {t : SetTable} {items : Array Value} {nn : Nat} {x : Value} {hx : Int} {Q : Option Value → Shared → Prop} (hI : s.heap.get? I = some (itObj (.ref T) i S n ep)) (hS : s.heap.get? S = some o) (hd : o.data = .set es ep t) (hf : t.fits es.size = true) (hn : es.size = n)
    (hT : s.heap.get? T = some oT) (hTd : oT.data = .seq items nn) (hit : items[i]? = some (.int place 0)) (hp : es[place]? = some (hx, x))
    (h : ∀ h', h'.get? I = some (itObj (.ref T) (i + 1) S n ep) → Heap.SameBut I s.heap h' → Q (some x) { s with heap := h' }) : wpAny (model prog w) A (pyNext (.ref I)) Q E s := by
  have hTy : s.TypeIs (.ref I) "set_iterator" := ⟨_, hI, rfl⟩
  unfold pyNext
  refine wpAny_bind (wpAny_attempt (wpAny_callSpecial?_slot (name := Str.ofString "__next__") hTy slot_sit_next (wpAny_call_entry slot_sit_next hTy entry_sit_next ?_ (args_sit_next _))))
  unfold Builtin.«set_iterator.__next__» slotArgs
  simp only [List.isEmpty_nil, Bool.not_true, Bool.false_eq_true, ↓reduceIte, bind_assoc, List.length_nil, bne_self_eq_false]; refine wpAny_bind (wpAny_pure ?_)
  dsimp only
  refine wpAny_bind (wpAny_fieldsOf hI rfl ?_)
  dsimp only
  refine wpAny_bind (wpAny_setEntries_of hS hd hf ?_)
  rw [if_neg (by rw [hn]; simp)]
  refine wpAny_bind (wpAny_seqItems hT hTd ?_)
  simp only [Int.toNat_natCast, hit]
  unfold setNextDrawn
  refine wpAny_bind (wpAny_bind (wpAny_setState_of hS hd hf ?_))
  dsimp only
  rw [if_neg (by simp), hp]
  dsimp only
  refine wpAny_pure ?_
  refine wpAny_bind (wpAny_setField hI rfl (by simp) (wpAny_pure ⟨x, rfl, wpAny_pure (h _ ?_ (Heap.SameBut.update ..))⟩))
  exact it_step hI
theorem small_next {I S : Addr} {o : Obj} {es : Array (Int × Value)} {ep i n : Nat} {t : SetTable} {slot : Int} {x : Value} {next : Nat} {tk : Tok} {Q : Option Value → Shared → Prop} (hI : s.heap.get? I = some (itObj (.int slot tk) i S n ep)) (hS : s.heap.get? S = some o) (hd : o.data = .set es ep t) (hf : t.fits es.size = true) (hn : es.size = n)
    (hnext : ∀ (R : Option (Value × Nat) → Shared → Prop) (E' : Value → Shared → Prop), R (some (x, next)) s → wpAny (model prog w) A.in1 (setNext S slot.toNat i ep) R E' s)
    (h : ∀ h', h'.get? I = some (itObj (.int next 0) (i + 1) S n ep) → Heap.SameBut I s.heap h' → Q (some x) { s with heap := h' }) : wpAny (model prog w) A (pyNext (.ref I)) Q E s := by
  have hTy : s.TypeIs (.ref I) "set_iterator" := ⟨_, hI, rfl⟩
  unfold pyNext
  refine wpAny_bind (wpAny_attempt (wpAny_callSpecial?_slot (name := Str.ofString "__next__") hTy slot_sit_next (wpAny_call_entry slot_sit_next hTy entry_sit_next ?_ (args_sit_next _))))
  unfold Builtin.«set_iterator.__next__» slotArgs
  simp only [List.isEmpty_nil, Bool.not_true, Bool.false_eq_true, ↓reduceIte, bind_assoc, List.length_nil, bne_self_eq_false]; refine wpAny_bind (wpAny_pure ?_)
  dsimp only
  refine wpAny_bind (wpAny_fieldsOf hI rfl ?_)
  dsimp only
  refine wpAny_bind (wpAny_setEntries_of hS hd hf ?_)
  rw [if_neg (by rw [hn]; simp)]
  simp only [Int.toNat_natCast]
  refine wpAny_bind (hnext _ _ ?_)
  dsimp only
  refine wpAny_bind (wpAny_setField hI rfl (by simp) ?_)
  have hI1 : (s.heap.update I (Obj.mapFields fun x => x.setIfInBounds 0 (rawInt ↑next))).get? I = some (itObj (.int next 0) i S n ep) := by
    refine (Heap.get?_update_self _ hI (Obj.isFreed_of_fields (Obj.data_mapFields rfl _))).trans ?_
    simp [Obj.mapFields, rawInt]
  have sb1 := Heap.SameBut.update s.heap I (Obj.mapFields fun x => x.setIfInBounds 0 (rawInt ↑next))
  generalize s.heap.update I (Obj.mapFields fun x => x.setIfInBounds 0 (rawInt ↑next)) = h1 at hI1 sb1 ⊢
  exact wpAny_bind (wpAny_setField (s := { s with heap := h1 }) hI1 rfl (by simp) (wpAny_pure ⟨x, rfl, wpAny_pure (h _ (it_step hI1) (sb1.trans (Heap.SameBut.update ..)))⟩))
theorem it_stop {I S : Addr} {first : Value} {i n ep : Nat} {R : PySem.Fin → Shared → Prop} {Q : Option Value → Shared → Prop} (hh : A.handled = none) (hI : s.heap.get? I = some (itObj first i S n ep)) (h : ∀ h', Heap.ExtBut I s.heap h' → Q none { s with heap := h' }) :
    wpAny (model prog w) A.in1 (do
        setField (Value.ref I) 2 Value.none
        let e ← newExc (Value.type "StopIteration") []
        raiseNew e) R (fun e s' => wpAny (model prog w) A (do
          let b ← isInstance e (Value.type "StopIteration")
          if b = true then pure none else throw e) Q E s') s := by
  refine wpAny_bind (wpAny_setField hI rfl (by simp) ?_)
  refine wpAny_bind ?_
  simp only [newTuple, newExc]
  refine wpAny_bind (wpAny_newObj_type ?_ (by size_fits)); have none1 : firstArgMember (.type "StopIteration") [] = pure Value.none := by first | rfl | (simp only [firstArgMember]; rfl)
  refine wpAny_bind (wpAny_of_eq none1 ?_)
  refine wpAny_newObj_type ?_ (by size_fits); simp only [raiseNew]
  refine wpAny_bind (wpAny_handled ?_); rw [show A.in1.handled = none from hh]
  refine wpAny_bind (wpAny_pure (wpAny_throw ?_)); have isStop := isSubtype_stop
  refine wpAny_bind (wpAny_isInstance ⟨_, Heap.get?_push_size _ rfl, rfl⟩ isStop ?_)
  exact wpAny_pure (h _ (((Heap.SameBut.update ..).extBut.push _).push _))
theorem end_drawn {I S T : Addr} {o oT : Obj} {es : Array (Int × Value)} {ep i n : Nat} {t : SetTable} {items : Array Value} {nn : Nat} {Q : Option Value → Shared → Prop} (hh : A.handled = none) (hI : s.heap.get? I = some (itObj (.ref T) i S n ep)) (hS : s.heap.get? S = some o) (hd : o.data = .set es ep t) (hf : t.fits es.size = true) (hn : es.size = n)
    (hT : s.heap.get? T = some oT) (hTd : oT.data = .seq items nn) (hit : items[i]? = none)
    (h : ∀ h', Heap.ExtBut I s.heap h' → Q none { s with heap := h' }) : wpAny (model prog w) A (pyNext (.ref I)) Q E s := by
  have hTy : s.TypeIs (.ref I) "set_iterator" := ⟨_, hI, rfl⟩
  unfold pyNext
  refine wpAny_bind (wpAny_attempt (wpAny_callSpecial?_slot (name := Str.ofString "__next__") hTy slot_sit_next (wpAny_call_entry slot_sit_next hTy entry_sit_next ?_ (args_sit_next _))))
  unfold Builtin.«set_iterator.__next__» slotArgs
  simp only [List.isEmpty_nil, Bool.not_true, Bool.false_eq_true, ↓reduceIte, bind_assoc, List.length_nil, bne_self_eq_false]; refine wpAny_bind (wpAny_pure ?_)
  dsimp only
  refine wpAny_bind (wpAny_fieldsOf hI rfl ?_)
  dsimp only
  refine wpAny_bind (wpAny_setEntries_of hS hd hf ?_)
  rw [if_neg (by rw [hn]; simp)]
  refine wpAny_bind (wpAny_seqItems hT hTd ?_)
  simp only [Int.toNat_natCast, hit]
  refine wpAny_bind (wpAny_setField hI rfl (by simp) ?_)
  have hI1 : (s.heap.update I (Obj.mapFields fun x => x.setIfInBounds 0 (rawInt 0))).get? I = some (itObj (.int 0 0) i S n ep) := by
    refine (Heap.get?_update_self _ hI (Obj.isFreed_of_fields (Obj.data_mapFields rfl _))).trans ?_
    simp [Obj.mapFields, rawInt]
  have sb1 := Heap.SameBut.update s.heap I (Obj.mapFields fun x => x.setIfInBounds 0 (rawInt 0))
  generalize s.heap.update I (Obj.mapFields fun x => x.setIfInBounds 0 (rawInt 0)) = h1 at hI1 sb1 ⊢
  exact it_stop (s := { s with heap := h1 }) hh hI1 fun h' e => h h' (sb1.extBut.trans e)
theorem end_small {I S : Addr} {o : Obj} {es : Array (Int × Value)} {ep i n : Nat} {t : SetTable} {slot : Int} {tk : Tok} {Q : Option Value → Shared → Prop} (hh : A.handled = none) (hI : s.heap.get? I = some (itObj (.int slot tk) i S n ep)) (hS : s.heap.get? S = some o) (hd : o.data = .set es ep t) (hf : t.fits es.size = true) (hn : es.size = n)
    (hnext : ∀ (R : Option (Value × Nat) → Shared → Prop) (E' : Value → Shared → Prop), R none s → wpAny (model prog w) A.in1 (setNext S slot.toNat i ep) R E' s)
    (h : ∀ h', Heap.ExtBut I s.heap h' → Q none { s with heap := h' }) : wpAny (model prog w) A (pyNext (.ref I)) Q E s := by
  have hTy : s.TypeIs (.ref I) "set_iterator" := ⟨_, hI, rfl⟩
  unfold pyNext
  refine wpAny_bind (wpAny_attempt (wpAny_callSpecial?_slot (name := Str.ofString "__next__") hTy slot_sit_next (wpAny_call_entry slot_sit_next hTy entry_sit_next ?_ (args_sit_next _))))
  unfold Builtin.«set_iterator.__next__» slotArgs
  simp only [List.isEmpty_nil, Bool.not_true, Bool.false_eq_true, ↓reduceIte, bind_assoc, List.length_nil, bne_self_eq_false]; refine wpAny_bind (wpAny_pure ?_)
  dsimp only
  refine wpAny_bind (wpAny_fieldsOf hI rfl ?_)
  dsimp only
  refine wpAny_bind (wpAny_setEntries_of hS hd hf ?_)
  rw [if_neg (by rw [hn]; simp)]
  simp only [Int.toNat_natCast]
  refine wpAny_bind (hnext _ _ ?_)
  dsimp only
  exact it_stop hh hI h
def Way3 (w : World) (S T : Addr) (es : Array (Int × Value)) (ep : Nat) (t : SetTable) (vs : List Value) (i : Nat) (first : Value) (h : Heap) : Prop :=
  (∃ (oT : Obj) (items : Array Value) (nn : Nat), first = .ref T ∧ h.get? T = some oT ∧ oT.data = .seq items nn ∧ items.size = vs.length ∧ ∀ (j : Nat) (x : Value), vs[j]? = some x → ∃ (place : Nat) (hx : Int), items[j]? = some (Value.int (place : Int) 0) ∧ es[place]? = some (hx, x)) ∨
  (w.params.followText "set-order" = true ∧ (∃ (k : Nat), first = .int k 0) ∧ vs = (pickOrder (w.params.setOrder S ep) es).toList.map (·.2)) ∨
  (w.params.followText "set-order" = false ∧ t.led = true ∧ es.size ≤ 1 ∧ vs = es.toList.map (·.2) ∧ ∃ (k : Nat), first = .int k 0 ∧ (i = 0 → k = 0) ∧ ∀ j, t.place.toList[0]? = some j → 0 < i → j < k)
structure ItSt (w : World) (I S T : Addr) (o : Obj) (es : Array (Int × Value)) (ep : Nat) (t : SetTable) (vs : List Value) (i : Nat) (h : Heap) : Prop where
  at_ : ∃ first, h.get? I = some (itObj first i S es.size ep) ∧ Way3 w S T es ep t vs i first h
  set : h.get? S = some o
theorem small_walk {S : Addr} {o : Obj} {es : Array (Int × Value)} {ep : Nat} {t : SetTable} {k i : Nat} {R : Option (Value × Nat) → Shared → Prop} (hS : s.heap.get? S = some o) (hd : o.data = .set es ep t) (hf : t.fits es.size = true) (hb : w.params.followText "set-order" = false) (hled : t.led = true) (h1 : es.size ≤ 1)
    (h : R (match es[SetTable.below t.place k]?, t.place[SetTable.below t.place k]? with | some (_, x), some j => some (x, j + 1) | _, _ => none) s) : wpAny (model prog w) A (setNext S k i ep) R E s := by
  unfold setNext setsByText
  refine wpAny_bind (wpAny_setState_of hS hd hf ?_)
  dsimp only
  refine wpAny_bind (wpAny_bind (wpAny_askSetting (wpAny_pure ?_))); rw [if_neg (by show ¬ w.params.followText "set-order" = true; rw [hb]; decide)]
  show wpAny _ _ (if (!t.plain && decide (es.size > 1)) = true then _ else _) _ _ _
  rw [if_neg (by simp; omega)]
  show wpAny _ _ ((if (!t.led && !es.isEmpty) = true then (unsupported "set:maker-not-led" : Sem Unit) else pure ()) >>= _) _ _ _
  rw [if_neg (by rw [hled]; simp)]
  refine wpAny_bind (wpAny_pure ?_); exact wpAny_pure h
theorem text_walk {S : Addr} {o : Obj} {es : Array (Int × Value)} {ep : Nat} {t : SetTable} {k i : Nat} {R : Option (Value × Nat) → Shared → Prop} (hS : s.heap.get? S = some o) (hd : o.data = .set es ep t) (hf : t.fits es.size = true) (hb : w.params.followText "set-order" = true)
    (h : R (((pickOrder (w.params.setOrder S ep) es)[i]?).map fun e => (e.2, k)) s) : wpAny (model prog w) A (setNext S k i ep) R E s := by
  unfold setNext setsByText
  refine wpAny_bind (wpAny_setState_of hS hd hf ?_)
  dsimp only
  refine wpAny_bind (wpAny_bind (wpAny_askSetting (wpAny_pure ?_))); rw [if_pos (by exact hb), if_neg (by simp)]
  unfold setWalk setsByText
  refine wpAny_bind (wpAny_bind (wpAny_setState_of hS hd hf ?_))
  dsimp only
  refine wpAny_bind (wpAny_bind (wpAny_askSetting (wpAny_pure ?_))); rw [if_pos (by exact hb)]
  refine wpAny_bind (wpAny_askSetting (wpAny_pure ?_))
  exact wpAny_pure h
theorem walk_set {I S T : Addr} {o : Obj} {es : Array (Int × Value)} {ep : Nat} {t : SetTable} {vs : List Value} {fp : List Addr} (hh : A.handled = none) (hd : o.data = .set es ep t) (hf : t.fits es.size = true) (hvl : vs.length = es.size) (hIS : S ≠ I) (hpw : t.place.toList.Pairwise (· < ·)) (hIf : I ∈ fp) (hSf : S ∈ fp) (hTf : T ∈ fp) (hTI : T ≠ I) :
    WalksS prog w A I fp [I] (fun a b => b = a) vs.length (fun i v => vs[i]? = some v) (fun i s => ItSt w I S T o es ep t vs i s.heap) where
  sub := fun b hb => by rw [List.mem_singleton.mp hb]; exact hIf
  grefl := fun _ => rfl; gtrans := fun _ _ _ h1 h2 => h2.trans h1
  frame := fun i s h' tk st _ hk => by
    obtain ⟨⟨first, h1, h2⟩, h3⟩ := st
    refine ⟨⟨first, hk I hIf _ h1, ?_⟩, hk S hSf _ h3⟩
    rcases h2 with ⟨oT, items, nn, rfl, e1, e2⟩ | q | q
    · exact .inl ⟨oT, items, nn, rfl, hk T hTf _ e1, e2⟩
    · exact .inr (.inl q)
    · exact .inr (.inr q)
  item := fun i s Q E hi st (hQ) => by
    obtain ⟨⟨first, hI, hw⟩, hS⟩ := st
    have hv : vs[i]? = some vs[i] := List.getElem?_eq_getElem hi
    have mv : ∀ h', Heap.SameBut I s.heap h' → Moved [I] (fun a b => b = a) s { s with heap := h' } := fun h' sb => ⟨fun b ob hb e => (sb.2 b (fun z => hb (by simp [z]))).trans e, rfl, rfl, rfl, Nat.le_refl _⟩
    rcases hw with ⟨oT, items, nn, rfl, e1, e2, e3, e4⟩ | ⟨hb, ⟨k, rfl⟩, rfl⟩ | ⟨hb, hled, h1, rfl, k, rfl, hk0, hk1⟩
    · obtain ⟨place, hx, p1, p2⟩ := e4 i _ hv
      refine next_drawn hI hS hd hf rfl e1 e2 p1 p2 fun h' hI' sb => hQ _ _ hv ⟨⟨_, hI', .inl ⟨oT, items, nn, rfl, (sb.2 T hTI).trans e1, e2, e3, e4⟩⟩, (sb.2 S hIS).trans hS⟩ (mv h' sb)
    · have hv2 : (pickOrder (w.params.setOrder S ep) es)[i]?.map (fun e => (e.2, k)) = some (((pickOrder (w.params.setOrder S ep) es).toList.map (·.2))[i], k) := by
        rw [List.getElem?_map, Array.getElem?_toList] at hv
        cases q : (pickOrder (w.params.setOrder S ep) es)[i]? with
        | none => rw [q] at hv; cases hv
        | some e => rw [q] at hv; simp at hv; simp [hv]
      refine small_next hI hS hd hf rfl (x := ((pickOrder (w.params.setOrder S ep) es).toList.map (·.2))[i]) (next := k) (fun R E' r => text_walk hS hd hf hb (by rw [Int.toNat_natCast, hv2]; exact r)) fun h' hI' sb => hQ _ _ hv ⟨⟨_, hI', .inr (.inl ⟨hb, ⟨k, rfl⟩, rfl⟩)⟩, (sb.2 S hIS).trans hS⟩ (mv h' sb)
    · simp only [List.length_map, Array.length_toList] at hi
      have i0 : i = 0 := by omega
      subst i0
      have k0 := hk0 rfl
      subst k0
      have hfit := hf
      unfold SetTable.fits at hfit
      simp only [Bool.and_eq_true, beq_iff_eq, decide_eq_true_eq] at hfit
      obtain ⟨j, hj⟩ : ∃ j, t.place.toList[0]? = some j := ⟨_, List.getElem?_eq_getElem (by simp; omega)⟩
      have hb0 : SetTable.below t.place 0 = 0 := by
        obtain ⟨_, l2, _⟩ := below_lo hpw 0
        apply Classical.byContradiction
        intro z
        have := l2 0 j (by omega) hj
        omega
      have hj' : t.place[0]? = some j := by rw [← Array.getElem?_toList]; exact hj
      obtain ⟨e, he⟩ : ∃ e, es[0]? = some e := ⟨_, Array.getElem?_eq_getElem hi⟩
      have hve : (es.toList.map (·.2))[0]? = some e.2 := by rw [List.getElem?_map, Array.getElem?_toList, he]; rfl
      refine small_next hI hS hd hf rfl (x := e.2) (next := j + 1) (fun R E' r => small_walk hS hd hf hb hled h1 (by rw [Int.toNat_natCast, hb0, he, hj']; exact r)) fun h' hI' sb => hQ _ _ hve ⟨⟨_, hI', .inr (.inr ⟨hb, hled, h1, rfl, j + 1, rfl, fun z => by omega, fun j' hj2 _ => ?_⟩)⟩, (sb.2 S hIS).trans hS⟩ (mv h' sb)
      rw [hj] at hj2
      cases hj2
      omega
  done := fun s Q E st hQ => by
    obtain ⟨⟨first, hI, hw⟩, hS⟩ := st
    have mv : ∀ h', Heap.ExtBut I s.heap h' → Moved [I] (fun a b => b = a) s { s with heap := h' } := fun h' sb => ⟨fun b ob hb e => sb b ob (fun z => hb (by simp [z])) e, rfl, rfl, rfl, Nat.le_refl _⟩
    rcases hw with ⟨oT, items, nn, rfl, e1, e2, e3, e4⟩ | ⟨hb, ⟨k, rfl⟩, hvs⟩ | ⟨hb, hled, h1, hvs, k, rfl, hk0, hk1⟩
    · exact end_drawn hh hI hS hd hf rfl e1 e2 (Array.getElem?_eq_none (by omega)) fun h' e => hQ _ (mv h' e)
    · refine end_small hh hI hS hd hf rfl (fun R E' r => text_walk hS hd hf hb ?_) fun h' e => hQ _ (mv h' e)
      have : (pickOrder (w.params.setOrder S ep) es).size = vs.length := by rw [hvs]; simp
      rw [Array.getElem?_eq_none (by omega)]
      exact r
    · refine end_small hh hI hS hd hf rfl (fun R E' r => small_walk hS hd hf hb hled h1 ?_) fun h' e => hQ _ (mv h' e)
      have hfit := hf
      unfold SetTable.fits at hfit
      simp only [Bool.and_eq_true, beq_iff_eq, decide_eq_true_eq] at hfit
      have big : es.size ≤ SetTable.below t.place k := by
        rcases Nat.eq_zero_or_pos es.size with z | z
        · omega
        · have one : es.size = 1 := by omega
          obtain ⟨j, hj⟩ : ∃ j, t.place.toList[0]? = some j := ⟨_, List.getElem?_eq_getElem (by simp; omega)⟩
          have lt := hk1 j hj (by omega)
          obtain ⟨_, _, l3⟩ := below_lo hpw k
          apply Classical.byContradiction
          intro c
          have := l3 0 j (by omega) hj
          omega
      rw [Int.toNat_natCast, Array.getElem?_eq_none big]
      exact r
  self := fun i s Q E st hQ => by
    obtain ⟨⟨first, hI, _⟩, _⟩ := st
    have hTy : s.TypeIs (.ref I) "set_iterator" := ⟨_, hI, rfl⟩
    refine wpAny_pyIter_slot hTy slot_sit_iter (wpAny_call_entry slot_sit_iter hTy entry_sit_iter ?_ (args_sit_iter _))
    show wpAny _ _ (ret (.ref I)) _ _ s
    exact wpAny_pure ⟨_, rfl, "set_iterator", _, hTy, slot_sit_next.lookup, hQ⟩
end
section
variable {prog : Program} {w : World} {K : Type} [DecidableEq K] {kn : KeyKind prog w K} {A : Around} {E : Value → Shared → Prop} {s : Shared}
theorem entry_set_iter : entryFor table "set.__iter__" = some Builtin.«frozenset.__iter__» := entryFor_alias (id' := "frozenset.__iter__") (by kernel_rfl) rfl (by decide +kernel) (by kernel_rfl)
theorem rel_list {α β : Type} {f : α → β} {l : List α} {i : Nat} {y : β} (h : (l.map f)[i]? = some y) : ∃ x, l[i]? = some x ∧ y = f x := by
  rw [List.getElem?_map] at h
  obtain ⟨x, h1, h2⟩ := Option.map_eq_some_iff.mp h
  exact ⟨x, h1, h2.symm⟩
theorem fm_get {α β : Type} {f : α → Option β} : ∀ l : List α, (∀ k ∈ l, ∃ y, f k = some y) → (l.filterMap f).length = l.length ∧ ∀ (j : Nat) (y : β), (l.filterMap f)[j]? = some y → ∃ k, l[j]? = some k ∧ f k = some y
  | [], _ => ⟨rfl, fun j y h => by simp at h⟩
  | a :: l, h => by
    obtain ⟨y, hy⟩ := h a (by simp)
    obtain ⟨h1, h2⟩ := fm_get l fun k hk => h k (by simp [hk])
    rw [List.filterMap_cons, hy]
    refine ⟨by rw [List.length_cons, List.length_cons, h1], fun j z hz => ?_⟩
    cases j with
    | zero => simp at hz; subst hz; exact ⟨a, rfl, hy⟩
    | succ j =>
      rw [List.getElem?_cons_succ] at hz
      obtain ⟨k, q1, q2⟩ := h2 j z hz
      exact ⟨k, by simpa using q1, q2⟩
theorem iter_set {S : Addr} {o : Obj} {es : Array (Int × Value)} {ep : Nat} {t : SetTable} {xs : List (List K × Addr)} {Q : Value → Shared → Prop} (ho : s.heap.get? S = some o) (hex : o.ExactSet) (hd : o.data = .set es ep t) (Sa : SetAt kn s.heap xs es t) (hpl : Flags w xs.length t)
    (h : ∀ h' d' I T vs, (∀ b ob, s.heap.get? b = some ob → h'.get? b = some ob) → s.heap.objs.size ≤ I → I < h'.objs.size → (T = S ∨ s.heap.objs.size ≤ T) → T ≠ I → vs.Perm (es.toList.map (·.2)) → ItSt w I S T o es ep t vs 0 h' → Q (.ref I) { s with heap := h', drawn := d' }) :
    wpAny (model prog w) A (pyIter (.ref S)) Q E s := by
  have hTy : s.TypeIs (.ref S) "set" := ⟨o, ho, hex.1⟩
  have hlt := Heap.lt_size ho
  refine wpAny_pyIter_slot hTy PySem.F.slot_set_iter (wpAny_call_entry PySem.F.slot_set_iter hTy entry_set_iter ?_ (PySem.F.args_set_iter_1 _))
  unfold Builtin.«frozenset.__iter__» Builtin.Frozenset.slot0 slotArgs
  simp only [List.isEmpty_nil, Bool.not_true, Bool.false_eq_true, ↓reduceIte, bind_assoc, List.length_nil, bne_self_eq_false]; refine wpAny_bind (wpAny_pure ?_)
  show wpAny _ _ (pure S >>= _) _ _ _
  refine wpAny_bind (wpAny_pure ?_); unfold Builtin.Frozenset.sizeOf
  refine wpAny_bind (wpAny_bind (wpAny_setEntries_of ho hd Sa.fits (wpAny_pure ?_)))
  unfold setDrawn setsByText
  refine wpAny_bind (wpAny_bind (wpAny_setState_of ho hd Sa.fits ?_))
  dsimp only
  refine wpAny_bind (wpAny_bind (wpAny_askSetting (wpAny_pure ?_))); refine wpAny_pure ?_
  show wpAny _ _ (if (!(w.params.followText "set-order") && (!t.plain && decide (es.size > 1))) = true then _ else _) _ _ _
  by_cases c : (!(w.params.followText "set-order") && (!t.plain && decide (es.size > 1))) = true
  · rw [if_pos c]
    refine wpAny_bind (draw_perm _ _ (by simp) fun order d' hp => ?_)
    simp only [newTuple]
    have hol : order.length = es.size := by rw [hp.length_eq, List.length_range]
    obtain ⟨fm1, fm2⟩ := fm_get (f := fun k => (es.toList.map (·.2))[k]?) order fun k hk => by
      have := List.mem_range.mp (hp.mem_iff.mp hk)
      exact ⟨_, List.getElem?_eq_getElem (by simpa using this)⟩
    refine wpAny_bind (wpAny_newObj_type ?_ (by
      show (order.map _).toArray.size ≤ _
      rw [List.size_toArray, List.length_map, hol, Sa.size]
      have := Sa.cap
      rcases Sa.tab.mask with z | z | z | z | z <;> rw [sizeLine_eq] <;> omega))
    generalize hob : ({ cls := Value.type "tuple", data := Data.seq (order.map fun (i : Nat) => rawInt ↑i).toArray } : Obj) = oT
    have hoT : (s.heap.push oT).get? s.heap.objs.size = some oT := Heap.get?_push_size _ (by rw [← hob]; rfl)
    have ho1 : (s.heap.push oT).get? S = some o := Heap.get?_push_of_some _ ho
    refine wpAny_bind (wpAny_setEpoch_of (s := { s with heap := s.heap.push oT, drawn := d' }) ho1 hd Sa.fits ?_)
    refine wpAny_bind (wpAny_newObj_type ?_); generalize hoi : ({ cls := Value.type "set_iterator", data := Data.fields [Value.ref s.heap.objs.size, rawInt 0, Value.ref S, rawInt ↑es.size, rawInt ↑ep].toArray } : Obj) = oI
    have hI : ((s.heap.push oT).push oI).get? (s.heap.push oT).objs.size = some (itObj (.ref s.heap.objs.size) 0 S es.size ep) := (Heap.get?_push_size _ (by rw [← hoi]; rfl)).trans (by rw [← hoi]; rfl)
    have hsz : (s.heap.push oT).objs.size = s.heap.objs.size + 1 := Heap.size_push _ _
    have hsz2 : ((s.heap.push oT).push oI).objs.size = s.heap.objs.size + 2 := by rw [Heap.size_push, hsz]
    refine wpAny_pure ⟨_, rfl, "set_iterator", _, ⟨_, hI, rfl⟩, slot_sit_next.lookup, ?_⟩
    refine h _ d' _ s.heap.objs.size (order.filterMap fun k => (es.toList.map (·.2))[k]?) (fun b ob e => Heap.get?_push_of_some _ (Heap.get?_push_of_some _ e)) (by rw [hsz]; exact Nat.le_succ _) (by rw [hsz2, hsz]; exact Nat.lt_succ_self _) (.inr (Nat.le_refl _)) (by rw [hsz]; exact Nat.ne_of_lt (Nat.lt_succ_self _)) ?_ ⟨⟨_, hI, .inl ⟨oT, _, 0, rfl, Heap.get?_push_of_some _ hoT, by rw [← hob], ?_, ?_⟩⟩, Heap.get?_push_of_some _ ho1⟩
    · have := hp.filterMap (fun k => (es.toList.map (·.2))[k]?)
      refine this.trans ?_
      rw [show es.size = (es.toList.map (·.2)).length by simp, range_all]
    · rw [List.size_toArray, List.length_map, fm1]
    · intro j x hx
      obtain ⟨k, hk1, hk2⟩ := fm2 j x hx
      obtain ⟨e, he1, he2⟩ := rel_list hk2
      refine ⟨k, e.1, ?_, ?_⟩
      · rw [← Array.getElem?_toList, List.toList_toArray, List.getElem?_map, hk1]; rfl
      · rw [← Array.getElem?_toList, he1, he2]
  · rw [if_neg c]
    refine wpAny_bind (wpAny_pure ?_); refine wpAny_bind (wpAny_setEpoch_of ho hd Sa.fits ?_)
    refine wpAny_bind (wpAny_newObj_type ?_); generalize hoi : ({ cls := Value.type "set_iterator", data := Data.fields [rawInt 0, rawInt 0, Value.ref S, rawInt ↑es.size, rawInt ↑ep].toArray } : Obj) = oI
    have hI : (s.heap.push oI).get? s.heap.objs.size = some (itObj (.int ((0 : Nat) : Int) 0) 0 S es.size ep) := (Heap.get?_push_size _ (by rw [← hoi]; rfl)).trans (by rw [← hoi]; rfl)
    refine wpAny_pure ⟨_, rfl, "set_iterator", _, ⟨_, hI, rfl⟩, slot_sit_next.lookup, ?_⟩
    have hS1 : (s.heap.push oI).get? S = some o := Heap.get?_push_of_some _ ho
    have hsz : (s.heap.push oI).objs.size = s.heap.objs.size + 1 := Heap.size_push _ _
    have keep : ∀ b ob, s.heap.get? b = some ob → (s.heap.push oI).get? b = some ob := fun b ob e => Heap.get?_push_of_some _ e
    cases hb : w.params.followText "set-order" with
    | true =>
      exact h _ s.drawn _ S ((pickOrder (w.params.setOrder S ep) es).toList.map (·.2)) keep (Nat.le_refl _) (by omega) (.inl rfl) (Nat.ne_of_lt hlt) ((pick_perm _ _).map _) ⟨⟨_, hI, .inr (.inl ⟨hb, ⟨0, rfl⟩, rfl⟩)⟩, hS1⟩
    | false =>
      have small : es.size ≤ 1 := by
        apply Classical.byContradiction
        intro z
        rcases hpl.1 with q | q
        · rw [Sa.size] at z; omega
        · rw [hb, q] at c; simp at c; omega
      exact h _ s.drawn _ S (es.toList.map (·.2)) keep (Nat.le_refl _) (by omega) (.inl rfl) (Nat.ne_of_lt hlt) (.refl _) ⟨⟨_, hI, .inr (.inr ⟨hb, by rw [hpl.2, hb]; rfl, small, rfl, 0, rfl, fun _ => rfl, fun j _ z => by omega⟩)⟩, hS1⟩
end
end LS
set_option maxRecDepth 100000
set_option maxHeartbeats 3200000
namespace LS
open PySem PyProof.Rows
section
variable {prog : Program} {w : World} {K : Type} [DecidableEq K] {kn : KeyKind prog w K} {A : Around} {E : Value → Shared → Prop} {s : Shared}
theorem collect_set {S : Addr} {xs : List (List K × Addr)} {Q : List Value → Shared → Prop} (hh : A.handled = none) (hS : SetOfT kn s.heap S xs)
    (h : ∀ s' vs, (∀ b ob, s.heap.get? b = some ob → s'.heap.get? b = some ob) → s.heap.objs.size ≤ s'.heap.objs.size → s'.gens = s.gens → s'.os = s.os → vs.Perm (xs.map fun x => Value.ref x.2) → Q vs s') :
    wpAny (model prog w) A (collect (.ref S)) Q E s := by
  obtain ⟨o, es, ep, t, ho, hex, hd, Sa, hpl⟩ := hS
  have hTy : s.TypeIs (.ref S) "set" := ⟨o, ho, hex.1⟩
  have hlt := Heap.lt_size ho
  unfold collect
  refine wpAny_bind (wpAny_runValue (codeAny_builtin PySem.F.entry_proto_collect ?_))
  rw [Around.under_plainId PySem.F.plain_proto_collect _]; show wpAny _ A.in1 (newList [] >>= fun l => again (.builtin "list.__iadd__" ⟨[l, .ref S], []⟩)) _ _ s
  refine wpAny_bind (wpAny_newObj_type ?_); refine wpAny_pure ⟨plainId_quiet PySem.F.plain_list_iadd _, codeAny_builtin PySem.F.entry_list_iadd ?_⟩
  rw [Around.under_plainId PySem.F.plain_list_iadd _]; generalize hL : ({ cls := Value.type "list", data := Data.seq ([] : List Value).toArray } : Obj) = oL
  have k1 : ∀ b ob, s.heap.get? b = some ob → (s.heap.push oL).get? b = some ob := fun b ob e => Heap.get?_push_of_some _ e
  have hL1 : (s.heap.push oL).get? s.heap.objs.size = some oL := Heap.get?_push_size _ (by rw [← hL]; rfl)
  have ho1 := k1 _ _ ho
  have sz1 : (s.heap.push oL).objs.size = s.heap.objs.size + 1 := Heap.size_push _ _
  have hTy1 : Shared.TypeIs { s with heap := s.heap.push oL } (.ref S) "set" := ⟨o, ho1, hex.1⟩
  have S1 : SetAt kn (s.heap.push oL) xs es t := ⟨Sa.es, fun x hx => (let ⟨o', it, n, a1, a2⟩ := Sa.is x hx; ⟨o', it, n, k1 _ _ a1, a2⟩), Sa.nd, Sa.tab, Sa.cap⟩
  show wpAny _ A.in1 (Builtin.List.listExtendWith (.ref s.heap.objs.size) (.ref S) (.ref s.heap.objs.size)) _ _ _
  unfold Builtin.List.listExtendWith; refine wpAny_bind (wpAny_typeOf hTy1 ?_)
  have q1 : Builtin.List.listSameRef (.ref s.heap.objs.size) (.ref S) = false := by
    have : s.heap.objs.size ≠ S := Nat.ne_of_gt hlt
    simp [Builtin.List.listSameRef, this]
  rw [if_neg (by rw [q1]; decide)]
  refine wpAny_bind (iter_set (s := { s with heap := s.heap.push oL }) ho1 hex hd S1 hpl fun h2 d2 I T vs k2 hI1 hI2 hTa hTI hp st => ?_)
  have hI1 : s.heap.objs.size + 1 ≤ I := by rw [← sz1]; exact hI1
  have ho2 := k2 _ _ ho1
  have hTy2 : Shared.TypeIs { s with heap := h2, drawn := d2 } (.ref S) "set" := ⟨o, ho2, hex.1⟩
  refine wpAny_bind (wpAny_holding ?_); unfold Builtin.List.listLengthHint
  refine wpAny_bind (wpAny_specialOf hTy2 PySem.F.slot_set_len.lookup ?_)
  generalize hid : ("set.__len__" : String) = name0
  wp_delta
  have hsp : splitId name0 = some ("set", "__len__") := by subst hid; decide +kernel
  rw [hsp]
  subst hid
  show wpAny _ _ (isInstance (Value.ref S) (Value.type "set") >>= _) _ _ _
  refine wpAny_bind (wpAny_isInstance hTy2 sub_set_self ?_)
  show wpAny _ _ (typeOf (Value.ref S) >>= _) _ _ _
  refine wpAny_bind (wpAny_typeOf hTy2 ?_)
  refine wpAny_pure ?_
  show wpAny _ A.in1 (rule "list.extend.makes-room" >>= fun _ => Builtin.List.listTouch (.ref s.heap.objs.size) >>= fun _ => again (.builtin "list.extend.loop" ⟨[.ref s.heap.objs.size, .ref I, .ref s.heap.objs.size], []⟩)) _ _ _
  refine wpAny_bind (wpAny_rule ?_); have hL2 : h2.get? s.heap.objs.size = some oL := k2 _ _ hL1
  refine wpAny_bind ?_
  show wpAny _ A.in1 (updateSeq s.heap.objs.size (·.push .none) >>= fun _ => updateSeq s.heap.objs.size (·.pop)) _ _ _; refine wpAny_bind (wpAny_updateSeq (s := { s with heap := h2, drawn := d2 }) hL2 (by rw [← hL]) ?_)
  have hL3 := Heap.get?_update_self (Obj.mapSeq (·.push Value.none)) hL2 (by rw [← hL]; rfl)
  have sb3 := Heap.SameBut.update h2 s.heap.objs.size (Obj.mapSeq (·.push Value.none))
  generalize h2.update s.heap.objs.size (Obj.mapSeq (·.push Value.none)) = h3 at hL3 sb3 ⊢
  refine wpAny_updateSeq (s := { s with heap := h3, drawn := d2 }) hL3 (by rw [← hL]; rfl) ?_
  have hL4 := Heap.get?_update_self (Obj.mapSeq (·.pop)) hL3 (by rw [← hL]; rfl)
  have sb4 := Heap.SameBut.update h3 s.heap.objs.size (Obj.mapSeq (·.pop))
  generalize h3.update s.heap.objs.size (Obj.mapSeq (·.pop)) = h4 at hL4 sb4 ⊢
  have sb := sb3.trans sb4
  have hfs := Sa.fits
  have hvl : vs.length = es.size := by rw [hp.length_eq]; simp
  have hIL : I ≠ s.heap.objs.size := Nat.ne_of_gt (Nat.lt_of_lt_of_le (Nat.lt_succ_self _) hI1)
  have hSL : S ≠ s.heap.objs.size := Nat.ne_of_lt hlt
  have hTL : T ≠ s.heap.objs.size := by
    rcases hTa with z | z
    · rw [z]; exact hSL
    · have : s.heap.objs.size + 1 ≤ T := by rw [← sz1]; exact z
      exact Nat.ne_of_gt (Nat.lt_of_lt_of_le (Nat.lt_succ_self _) this)
  have hSI : S ≠ I := Nat.ne_of_lt (Nat.lt_of_lt_of_le hlt (by omega))
  have W := walk_set (prog := prog) (w := w) (A := A.in1) (T := T) (fp := [I, S, T]) hh hd hfs hvl hSI Sa.tab.pw (by simp) (by simp) (by simp) hTI
  have st4 : ItSt w I S T o es ep t vs 0 h4 := W.frame 0 { s with heap := h2, drawn := d2 } h4 s.toks st (Nat.le_refl _) fun b hb ob e => by
    have ne : b ≠ s.heap.objs.size := by
      simp only [List.mem_cons, List.not_mem_nil, or_false] at hb; rcases hb with rfl | rfl | rfl <;> assumption
    exact (sb.2 b ne).trans e
  subst hL
  have small : es.size ≤ sizeLine := by
    rw [Sa.size]
    have := Sa.cap
    rcases Sa.tab.mask with z | z | z | z | z <;> rw [sizeLine_eq] <;> omega
  refine wpAny_pure ⟨plainId_quiet PySem.F.plain_extend_loop _, codeAny_extend_loopS W (by rw [hvl]; exact small) s.heap.objs.size (by simp only [List.mem_cons, List.not_mem_nil, or_false, not_or]; exact ⟨Ne.symm hIL, Ne.symm hSL, Ne.symm hTL⟩) _ vs.length 0 { s with heap := h4, drawn := d2 } #[] _ rfl (Nat.zero_le _) st4 (hL4.trans rfl) (ItemsOf.nil _) fun s' acc c hm hS' hacc => ?_⟩
  show wpAny _ A (load s.heap.objs.size >>= _) _ _ s'; refine wpAny_bind (wpAny_load hS' (wpAny_pure ?_))
  have eacc : acc.toList = vs := by
    refine List.ext_getElem? fun j => ?_
    by_cases c : j < vs.length
    · obtain ⟨v, hv⟩ : ∃ v, acc[j]? = some v := ⟨_, Array.getElem?_eq_getElem (by rw [hacc.1]; exact c)⟩
      rw [Array.getElem?_toList, hv, hacc.2 j v hv]
    · have l1 : acc.toList.length ≤ j := by rw [Array.length_toList, hacc.1]; omega
      have l2 : vs.length ≤ j := by omega
      rw [List.getElem?_eq_none l1, List.getElem?_eq_none l2]
  rw [eacc]
  refine h s' vs (fun b ob e => ?_) (Nat.le_of_lt (Heap.lt_size hS')) hm.gens hm.os ?_
  · have hb := Heap.lt_size e
    refine hm.heap b ob ?_ ((sb.2 b (Nat.ne_of_lt hb)).trans (k2 _ _ (k1 _ _ e)))
    simp only [List.mem_cons, List.not_mem_nil, or_false, not_or]
    exact ⟨Nat.ne_of_lt hb, Nat.ne_of_lt (Nat.lt_of_lt_of_le hb (by omega))⟩
  · rw [Sa.es, List.map_map] at hp
    exact hp
end
end LS
set_option maxRecDepth 100000
set_option maxHeartbeats 3200000
namespace LS
open PySem PySem.W PyProof.Rows
def Ends' {α : Type} (n : Nat) (P : α → Prop) : KasT α → Prop
  | .ret a => P a
  | .ask i j k => i < n ∧ j < n ∧ ∀ b, Ends' n P (k b)
theorem ends_bind {α β : Type} {n : Nat} {P : α → Prop} {R : β → Prop} {f : α → KasT β} : ∀ t : KasT α, Ends' n P t → (∀ a, P a → Ends' n R (f a)) → Ends' n R (t.bind f)
  | .ret a, h, hf => hf a h
  | .ask i j k, h, hf => ⟨h.1, h.2.1, fun b => ends_bind (k b) (h.2.2 b) hf⟩
theorem ends_wp {α : Type} {n : Nat} {P : α → Prop} {cmp : Nat → Nat → (Bool → Shared → Prop) → Shared → Prop} {Q : α → Shared → Prop} {s : Shared} (hc : ∀ i j C, i < n → j < n → (∀ b, C b s) → cmp i j C s) (hq : ∀ a, P a → Q a s) : ∀ t : KasT α, Ends' n P t → t.kasWp cmp Q s
  | .ret a, h => hq a h
  | .ask i j k, h => hc i j _ h.1 h.2.1 fun b => ends_wp hc hq (k b) (h.2.2 b)
def AllLt (n : Nat) (p : Array Nat) : Prop := p.Perm (List.range n).toArray
theorem AllLt.get {n : Nat} {p : Array Nat} (h : AllLt n p) (hn : 0 < n) (i : Nat) : p.getD i 0 < n := by
  by_cases c : i < p.size
  · have : p[i] ∈ (List.range n).toArray := h.mem_iff.mp (Array.getElem_mem c)
    simp at this
    simp [Array.getD, c]
    exact this
  · simp [Array.getD, c]
    exact hn
theorem AllLt.rev {n : Nat} {p : Array Nat} (h : AllLt n p) (i j : Nat) : AllLt n (kas_rev p i j) := (mirror_perm _ _ _ _).trans h
section
variable {n : Nat} (hn : 0 < n)
include hn
theorem ends_asc {p : Array Nat} (h : AllLt n p) : ∀ f m, Ends' n (fun _ => True) (kas_asc p f m)
  | 0, m => trivial
  | f + 1, m => ⟨h.get hn _, h.get hn _, fun b => by
    cases b with
    | true => exact trivial
    | false => exact ends_asc h f (m + 1)⟩
theorem ends_desc : ∀ f p m q, AllLt n p → Ends' n (fun r => AllLt n r.1) (kas_desc f p m q)
  | 0, p, m, q, h => h
  | f + 1, p, m, q, h => ⟨h.get hn _, h.get hn _, fun b => by
    cases b with
    | true =>
      simp only [if_true]
      split
      · exact ends_desc f _ _ _ (h.rev _ _)
      · exact ends_desc f _ _ _ h
    | false =>
      refine ⟨h.get hn _, h.get hn _, fun d => ?_⟩
      cases d with
      | true => exact h
      | false => exact ends_desc f _ _ _ h⟩
theorem ends_tail3 {m nrem : Nat} {p : Array Nat} (h : AllLt n p) : Ends' n (fun r => AllLt n r.2) (kas_tail3 m nrem p) :=
  ends_bind _ (ends_asc hn (h.rev _ _) _ _) fun a _ => h.rev _ _
theorem ends_descPart {m nrem : Nat} {p : Array Nat} (h : AllLt n p) : Ends' n (fun r => AllLt n r.2) (kas_descPart m nrem p) := by
  refine ends_bind _ (ends_desc hn _ _ _ _ h) fun r hr => ?_
  split
  · exact ends_tail3 hn (hr.rev _ _)
  · exact ends_tail3 hn hr
theorem ends_count {nrem : Nat} {p : Array Nat} (h : AllLt n p) : Ends' n (fun r => AllLt n r.2) (kas_count nrem p) := by
  refine ends_bind _ (ends_asc hn h _ _) fun m _ => ?_
  split
  · exact h
  · split
    · refine ⟨h.get hn _, h.get hn _, fun b => ?_⟩
      cases b with
      | true => exact h
      | false => exact ends_descPart hn (h.rev _ _)
    · exact ends_descPart hn h
theorem ends_place {p : Array Nat} (h : AllLt n p) (k : Nat) : ∀ f l r, Ends' n (fun _ => True) (kas_place p k f l r)
  | 0, l, r => trivial
  | f + 1, l, r => by
    unfold kas_place
    split
    · exact trivial
    · refine ⟨h.get hn _, h.get hn _, fun b => ?_⟩
      cases b with
      | true => exact ends_place h k f _ _
      | false => exact ends_place h k f _ _
theorem ends_bin : ∀ f p k, AllLt n p → Ends' n (AllLt n) (kas_bin f p k)
  | 0, p, k, h => h
  | f + 1, p, k, h => ends_bind _ (ends_place hn h k _ _ _) fun l _ => ends_bin f _ _ ((bubble_perm _ _ _).trans h)
theorem ends_sort : Ends' n (AllLt n) (kas_sort n) := by
  refine ends_bind _ (ends_count hn (Array.Perm.refl _)) fun r hr => ?_
  split
  · exact ends_bin hn _ _ _ hr
  · exact hr
end
section
variable {w : World} {prog : Program} {A : Around} {E : Value → Shared → Prop} {s : Shared}
def TxtTup (h : Heap) (b : Addr) : Prop := ∃ o x t r n, h.get? b = some o ∧ o.cls = .type "tuple" ∧ o.data = .seq (Value.str x t :: r).toArray n ∧ ∀ v ∈ r, ∃ y u, v = Value.str y u
theorem lex_any {b fin : Bool} {Q : Bool → Shared → Prop} (hq : ∀ c, Q c s) : ∀ (l : List (Value × Value)) (i : Nat), (∀ p ∈ l, (∃ x t, p.1 = Value.str x t) ∧ ∃ y u, p.2 = Value.str y u) → KatLex prog w A b fin Q l i s
  | [], i, _ => kat_nil (hq fin)
  | (p, q) :: r, i, h => by
    obtain ⟨⟨x, t, e1⟩, y, u, e2⟩ := h (p, q) (by simp)
    simp only at e1 e2
    subst e1 e2
    refine kat_cons (wpAny_eqBool_str ?_)
    refine kat_go (fun _ => kat_yes (lex_any hq r (i + 1) fun z hz => h z (by simp [hz]))) (fun _ => kat_no ?_)
    cases (b && i == 0) with
    | true => exact oneLt_str (hq _)
    | false => exact kat_one _ _ (lt_str (hq _))
theorem cmp_any {b : Bool} {x y : Addr} {Q : Bool → Shared → Prop} (hx : TxtTup s.heap x) (hy : TxtTup s.heap y) (hq : ∀ c, Q c s) : wpAny (model prog w) A (keyLt' (tuples' b) (.ref x) (.ref y)) Q E s := by
  obtain ⟨o1, x1, t1, r1, n1, a1, a2, a3, a4⟩ := hx
  obtain ⟨o2, x2, t2, r2, n2, b1, b2, b3, b4⟩ := hy
  refine kat_lt a1 a3 b1 b3 (lex_any hq _ _ fun p hp => ?_)
  have h1 := (List.of_mem_zip hp).1
  have h2 := (List.of_mem_zip hp).2
  simp only [List.mem_cons] at h1 h2
  exact ⟨by rcases h1 with z | z; exact ⟨x1, t1, z⟩; exact a4 _ z, by rcases h2 with z | z; exact ⟨x2, t2, z⟩; exact b4 _ z⟩
theorem tups_of {h : Heap} : ∀ vs : List Value, (∀ v ∈ vs, ∃ b, v = Value.ref b ∧ TxtTup h b) → ∃ fs, KatTups h vs fs ∧ fs.length = vs.length ∧ ∀ f ∈ fs, ∃ x t, f = Value.str x t
  | [], _ => ⟨[], KatTups.nil, rfl, fun f hf => by simp at hf⟩
  | v :: vs, hv => by
    obtain ⟨fs, h1, h2, h3⟩ := tups_of vs fun u hu => hv u (by simp [hu])
    obtain ⟨b, rfl, o, x, t, r, n, a1, a2, a3, a4⟩ := hv v (by simp)
    refine ⟨Value.str x t :: fs, KatTups.cons a1 a2 a3 (by simp) h1, by simp [h2], fun f hf => ?_⟩
    rcases List.mem_cons.mp hf with rfl | hf
    · exact ⟨x, t, rfl⟩
    · exact h3 f hf
theorem perm_items {vs : List Value} {p : Array Nat} (h : AllLt vs.length p) : ((p.map (kas_item (pairsOf vs))).map (·.2)).toList.Perm vs := by
  have e : ((p.map (kas_item (pairsOf vs))).map (·.2)).toList = p.toList.map fun i => vs.getD i Value.none := by
    rw [Array.toList_map, Array.toList_map, List.map_map]
    refine List.map_congr_left fun i _ => ?_; show (kas_item (pairsOf vs) i).2 = _
    rw [kas_item_eq]
  rw [e]
  have hp : p.toList.Perm (List.range vs.length) := by simpa using Array.perm_iff_toList_perm.mp h
  refine (hp.map _).trans ?_
  have : (List.range vs.length).map (fun i => vs.getD i Value.none) = vs := by
    refine List.ext_getElem (by simp) fun i h1 h2 => ?_
    simp at h1
    simp [h1]
  rw [this]
theorem sort_tups {a : Addr} {vs : List Value} {n : Nat} {P : PySem.Fin → Shared → Prop} (ho : s.heap.get? a = some (seqObj "list" vs.toArray n)) (hv : ∀ v ∈ vs, ∃ b, v = Value.ref b ∧ TxtTup s.heap b) (h64 : vs.length < 64)
    (h : ∀ h' out e, Heap.ExtBut a s.heap h' → h'.get? a = some (seqObj "list" out e) → out.toList.Perm vs → P (.done (.ret .none)) { s with heap := h' }) : wpAny (model prog w) A (Builtin.«list.sort» ⟨[.ref a], []⟩) P E s := by
  rw [list_sort_plain]
  have ha : a < s.heap.objs.size := Heap.lt_size ho; refine wpAny_bind (listItems_at ho rfl ?_)
  refine wpAny_bind (listUpdate_at ho rfl ?_ (by rw [List.size_toArray, sizeLine_eq]; omega) (Nat.zero_le _)); obtain ⟨e1, ho1⟩ : ∃ e1, (s.heap.update a (Obj.mapSeq fun _ => (#[] : Array Value))).get? a = some (seqObj "list" #[] e1) := ⟨_, get?_update_seq ho fun _ => #[]⟩
  have sb1 := Heap.SameBut.update s.heap a (Obj.mapSeq fun _ => (#[] : Array Value))
  generalize s.heap.update a (Obj.mapSeq fun _ => (#[] : Array Value)) = h1 at ho1 sb1 ⊢
  refine wpAny_bind (seqEpoch_at (s := { s with heap := h1 }) ho1 rfl ?_)
  refine wpAny_bind (wpAny_newTuple ?_ (by show vs.length ≤ _; rw [sizeLine_eq]; omega)); refine wpAny_bind (wpAny_newList ?_ (by show 0 ≤ _; exact Nat.zero_le _))
  refine wpAny_holding ?_
  dsimp only
  generalize hot : ({ cls := Value.type "tuple", data := Data.seq vs.toArray.toList.toArray } : Obj) = oT
  generalize hol : ({ cls := Value.type "list", data := Data.seq ([] : List Value).toArray } : Obj) = oL
  have k2 : ∀ b o, h1.get? b = some o → ((h1.push oT).push oL).get? b = some o := fun b o e => Heap.get?_push_of_some _ (Heap.get?_push_of_some _ e)
  have ho2 := k2 _ _ ho1
  have ext : Heap.ExtBut a s.heap ((h1.push oT).push oL) := fun b o hb e => k2 b o ((sb1.2 b hb).trans e)
  generalize (h1.push oT).push oL = h2 at k2 ho2 ext ⊢
  have hv2 : ∀ v ∈ vs, ∃ b, v = Value.ref b ∧ TxtTup h2 b := fun v hvv => by
    obtain ⟨b, rfl, o, x, t, r, m, a1, a2, a3, a4⟩ := hv v hvv
    have ne : b ≠ a := by
      rintro rfl
      rw [ho] at a1
      cases a1
      exact absurd (show Value.type "list" = Value.type "tuple" from a2) (by decide)
    exact ⟨b, rfl, o, x, t, r, m, ext b o ne a1, a2, a3, a4⟩
  have hsz : vs.toArray.size = vs.length := (by simp); have fin : ∀ (st : SortSt), failedOf st = none → ((arrOf st).map (·.2)).toList.Perm vs → wpAny (model prog w) A (do
      let ep ← seqEpoch a
      have touched : Bool := ep != e1
      Builtin.List.listUpdate (Value.ref a) fun _ => (arrOf st).map (·.2)
      if touched = true then do
          rule "list.sort.modified"
          let r ← (raiseErrorWords "ValueError" "list modified during sort" : Sem Unit)
          ret Value.none
        else ret Value.none) P E { s with heap := h2 } := by
    intro st hf hp
    refine wpAny_bind (seqEpoch_at (s := { s with heap := h2 }) ho2 rfl ?_)
    refine wpAny_bind (listUpdate_at (s := { s with heap := h2 }) ho2 rfl ?_ (Nat.zero_le _) (by
      rw [← Array.length_toList, hp.length_eq, sizeLine_eq]; omega))
    simp only [bne_self_eq_false, Bool.false_eq_true, if_false]; obtain ⟨e3, ho3⟩ : ∃ e3, (h2.update a (Obj.mapSeq fun _ => (arrOf st).map (·.2))).get? a = some (seqObj "list" ((arrOf st).map (·.2)) e3) := ⟨_, get?_update_seq ho2 fun _ => (arrOf st).map (·.2)⟩
    have sb3 := Heap.SameBut.update h2 a (Obj.mapSeq fun _ => (arrOf st).map (·.2))
    exact wpAny_pure (h _ _ e3 (ext.trans sb3.extBut) ho3 hp)
  by_cases h2' : vs.toArray.size < 2
  · rw [if_pos h2']
    refine wpAny_bind (wpAny_pure ?_); rw [if_pos h2', StateT.run_pure]
    refine wpAny_bind (wpAny_pure ?_); dsimp only
    exact fin (SortSt.mk' general' (vs.toArray.zip vs.toArray) #[] 7 none) rfl (by
      show ((vs.toArray.zip vs.toArray).map (·.2)).toList.Perm vs
      have : ((vs.toArray.zip vs.toArray).map (·.2)).toList = vs := by
        rw [Array.toList_map, Array.toList_zip, List.map_snd_zip (by simp)]
      rw [this])
  · rw [if_neg h2']
    obtain ⟨fs, t1, t2, t3⟩ := tups_of vs hv2
    refine wpAny_bind (kat_kind (s := { s with heap := h2 }) (T := .type "str") t1 (by omega) (fun v hvv => ?_) (by decide) ?_)
    · obtain ⟨x, t, rfl⟩ := t3 v hvv
      exact Looks.of_pure rfl
    rw [if_neg h2']
    have start : SortSt.mk' (tuples' (Value.type "str" != Value.type "tuple")) (vs.toArray.zip vs.toArray) #[] 7 none = kas_st (tuples' (Value.type "str" != Value.type "tuple")) (pairsOf vs) (List.range vs.length).toArray := by
      unfold kas_st
      rw [show vs.length = (pairsOf vs).size from (pairsOf_size vs).symm, kas_range]
      rfl
    rw [start]
    refine wpAny_bind (wpAny_mono (kas_runs (Q := fun _ st s' => failedOf st = none ∧ ((arrOf st).map (·.2)).toList.Perm vs ∧ s' = { s with heap := h2 }) (G := fun p s' => AllLt vs.length p ∧ s' = { s with heap := h2 }) (by omega) h64 (fun p st s' _ e1 e2 hg => ⟨e2, by rw [e1]; exact perm_items hg.1, hg.2⟩) ?_) ?_ (fun _ _ x => x))
    · refine ends_wp (P := AllLt vs.length) (n := vs.length) (fun i j C hi hj hC => ?_) (fun p hp => ⟨hp, rfl⟩) _ (ends_sort (by omega))
      rw [← kas_ask_eq]
      unfold kas_ask
      rw [List.getD_eq_getElem?_getD, List.getD_eq_getElem?_getD, List.getElem?_eq_getElem hi, List.getElem?_eq_getElem hj]; obtain ⟨x, ex, hx⟩ := hv2 _ (List.getElem_mem hi)
      obtain ⟨y, ey, hy⟩ := hv2 _ (List.getElem_mem hj)
      show wpAny _ _ (keyLt' _ vs[i] vs[j]) _ _ _
      rw [ex, ey]
      exact cmp_any hx hy hC
    · rintro ⟨⟨⟩, st⟩ s' ⟨hf, hp, rfl⟩
      dsimp only
      have := fin st hf hp
      rw [hf]
      exact this
end
end LS
set_option maxRecDepth 100000
set_option maxHeartbeats 3200000
namespace LS
open PySem PySem.W PyProof.Rows
section
variable {prog : Program} {w : World} {K : Type} [DecidableEq K] {kn : PySem.KeyKind prog w K} {A : Around} {E : Value → Shared → Prop} {s : Shared}
theorem grow_tup {h h' : Heap} {a : Addr} (k : ∀ b o, h.get? b = some o → h'.get? b = some o) (hs : TxtTup h a) : TxtTup h' a := by
  obtain ⟨o, x, t, r, n, a1, a2⟩ := hs
  exact ⟨o, x, t, r, n, k _ _ a1, a2⟩
theorem sorted_set {S : Addr} {xs : List (List K × Addr)} {Q : Value → Shared → Prop} (hh : A.handled = none) (hS : SetOfT kn s.heap S xs) (htt : ∀ x ∈ xs, TxtTup s.heap x.2) (h64 : xs.length < 64)
    (h : ∀ s' l out e, (∀ b ob, s.heap.get? b = some ob → s'.heap.get? b = some ob) → s'.gens = s.gens → s'.os = s.os → s.heap.objs.size ≤ l → s'.heap.get? l = some (seqObj "list" out e) → out.toList.Perm (xs.map fun x => Value.ref x.2) → Q (.ref l) s') :
    wpAny (model prog w) A (call (.builtin "sorted") [.ref S]) Q E s := by
  refine Calls.call_function_entry kind_sorted plain_sorted entry_sorted (args_sorted1 _) ?_; unfold Builtin.«sorted»
  refine wpAny_bind (m := checkCount "sorted" 1 1 _) (wpAny_pure ?_); refine wpAny_bind (collect_set (A := A.in1) hh hS fun s1 vs k1 le1 g1 o1 hp => ?_)
  have hvl : vs.length = xs.length := by rw [hp.length_eq, List.length_map]
  refine wpAny_bind (wpAny_newList ?_ (by rw [hvl, sizeLine_eq]; omega))
  have hoL : (s1.heap.push (seqObj "list" vs.toArray 0)).get? s1.heap.objs.size = some (seqObj "list" vs.toArray 0) := Heap.get?_push_size _ rfl
  have k2 : ∀ b ob, s.heap.get? b = some ob → (s1.heap.push (seqObj "list" vs.toArray 0)).get? b = some ob := fun b ob e => Heap.get?_push_of_some _ (k1 b ob e)
  have hnone : s.heap.get? s1.heap.objs.size = none := by
    cases e : s.heap.get? s1.heap.objs.size with
    | none => rfl
    | some o => have := k1 _ _ e; rw [none_size] at this; cases this
  have hv : ∀ v ∈ vs, ∃ b, v = Value.ref b ∧ TxtTup (s1.heap.push (seqObj "list" vs.toArray 0)) b := fun v hvv => by
    obtain ⟨x, hx, rfl⟩ := List.mem_map.mp (hp.mem_iff.mp hvv)
    exact ⟨x.2, rfl, grow_tup k2 (htt x hx)⟩
  refine wpAny_bind (wpAny_holding (wpAny_call_entry slot_list_sort ⟨_, hoL, rfl⟩ entry_list_sort (sort_tups (s := { s1 with heap := s1.heap.push (seqObj "list" vs.toArray 0) }) hoL hv (by omega) fun h' out e ext ho' hp' => ⟨_, rfl, ?_⟩) (args_list_sort _)))
  refine wpAny_pure ⟨_, rfl, h _ _ out e (fun b ob eb => ?_) g1 o1 le1 ho' (hp'.trans hp)⟩
  have ne : b ≠ s1.heap.objs.size := by rintro rfl; rw [hnone] at eb; cases eb
  exact ext b ob ne (k2 b ob eb)
end
end LS
set_option maxRecDepth 100000
set_option maxHeartbeats 3200000
namespace LS
open PySem PySem.W PyProof.Rows
structure Firsts {K : Type} (zs l : List (List K × Addr)) : Prop where
  from_ : ∀ z ∈ zs, z ∈ l
  keys : ∀ k, k ∈ zs.map (·.1) ↔ k ∈ l.map (·.1)
section
variable {prog : Program} {w : World} {K : Type} [DecidableEq K] {kn : PySem.KeyKind prog w K} {A : Around} {E : Value → Shared → Prop} {s : Shared} {R : Result → Shared → Prop}
theorem fill_loop {S I p : Addr} {items : Array Value} {l : List (List K × Addr)} (hi : items.toList = l.map fun x => Value.ref x.2) (hh : A.handled = none) (hu : A.units + 2 < cLine) (hIp : p ≠ I) (hSI : S ≠ I) (hSp : S ≠ p) (hll : l.length ≤ 36) :
    ∀ (k i : Nat) (s : Shared) (zs : List (List K × Addr)), l.length - i = k → i ≤ l.length → s.heap.IsListIter I p i ∧ s.heap.IsList p items → SetOfT kn s.heap S zs → Firsts zs (l.take i) → zs.length ≤ i → (∀ x ∈ l, IsTupleKey kn s.heap x.1 x.2 ∧ Texty s.heap x.2 ∧ x.2 ≠ I ∧ x.2 ≠ S) →
      (∀ s' zs', (∀ b o, b ≠ S → b ≠ I → s.heap.get? b = some o → s'.heap.get? b = some o) → s'.gens = s.gens → s'.os = s.os → s'.drawn = s.drawn → SetOfT kn s'.heap S zs' → Firsts zs' l → R (.ok (.ret .none)) s') →
      codeAny (model prog w) A (Code.builtin "set.update.loop" ⟨[.ref S, .ref I], []⟩) R s := by
  have W : WalksS prog w A.in1 I [I, p] [I] (fun a b => b = a) items.size (fun i v => items[i]? = some v) (fun i s => s.heap.IsListIter I p i ∧ s.heap.IsList p items) := (Walks.list (A := A.in1) hh I p hIp items).toS
  have hn : items.size = l.length := by rw [← Array.length_toList, hi, List.length_map]
  intro k
  induction k with
  | zero =>
    intro i s zs hk hil hst hS hF hz hl hR
    have hin : i = l.length := by omega
    subst hin
    refine codeAny_builtin PyProof.Rows.F.entry_set_update_loop ?_
    rw [Around.under_plainId PyProof.Rows.F.plain_set_update_loop _]
    show wpAny _ A.in1 (pyNext (.ref I) >>= _) _ _ s; refine wpAny_bind (W.done s _ _ (by rw [hn]; exact hst) fun s' hm => ?_)
    refine wpAny_pure (hR s' zs (fun b o _ hb e => hm.heap b o (by simpa using hb) e) hm.gens hm.os hm.drawn ?_ (by rw [List.take_length] at hF; exact hF))
    obtain ⟨o, es, ep, t, h1, h2, h3, Sa, h5⟩ := hS
    have kp : ∀ b o, b ≠ I → s.heap.get? b = some o → s'.heap.get? b = some o := fun b o hb e => hm.heap b o (by simpa using hb) e
    refine ⟨o, es, ep, t, kp _ _ hSI h1, h2, h3, ⟨Sa.es, fun x hx => ?_, Sa.nd, Sa.tab, Sa.cap⟩, h5⟩
    obtain ⟨o', it, n', a1, a2⟩ := Sa.is x hx
    have hx' : x ∈ l := by have := hF.from_ x hx; rwa [List.take_length] at this
    exact ⟨o', it, n', kp _ _ (hl x hx').2.2.1 a1, a2⟩
  | succ k ih =>
    intro i s zs hk hil hst hS hF hz hl hR
    have hlt : i < l.length := (by omega); refine codeAny_builtin PyProof.Rows.F.entry_set_update_loop ?_
    rw [Around.under_plainId PyProof.Rows.F.plain_set_update_loop _]
    show wpAny _ A.in1 (pyNext (.ref I) >>= _) _ _ s; refine wpAny_bind (W.item i s _ _ (by omega) hst fun v s' hP hst' hm => ?_)
    have hv : v = Value.ref l[i].2 := by
      have : items.toList[i]? = some v := by rw [Array.getElem?_toList]; exact hP
      rw [hi, List.getElem?_map, List.getElem?_eq_getElem hlt] at this; exact (Option.some.inj this).symm
    subst hv
    have kp : ∀ b o, b ≠ I → s.heap.get? b = some o → s'.heap.get? b = some o := fun b o hb e => hm.heap b o (by simpa using hb) e
    have hl' : ∀ x ∈ l, IsTupleKey kn s'.heap x.1 x.2 ∧ Texty s'.heap x.2 ∧ x.2 ≠ I ∧ x.2 ≠ S := fun x hx => by
      obtain ⟨⟨o1, it1, n1, a1, a2⟩, ⟨o2, it2, n2, b1, b2⟩, h3, h4⟩ := hl x hx
      exact ⟨⟨o1, it1, n1, kp _ _ h3 a1, a2⟩, ⟨o2, it2, n2, kp _ _ h3 b1, b2⟩, h3, h4⟩
    have hS' : SetOfT kn s'.heap S zs := by
      obtain ⟨o, es, ep, t, h1, h2, h3, Sa, h5⟩ := hS
      refine ⟨o, es, ep, t, kp _ _ hSI h1, h2, h3, ⟨Sa.es, fun x hx => ?_, Sa.nd, Sa.tab, Sa.cap⟩, h5⟩
      obtain ⟨o', it, n', a1, a2⟩ := Sa.is x hx
      exact ⟨o', it, n', kp _ _ (hl x (List.mem_of_mem_take (hF.from_ x hx))).2.2.1 a1, a2⟩
    have hm1 := hl' l[i] (List.getElem_mem hlt)
    show wpAny _ A.in1 (holding [Value.ref l[i].2] (setAdd S (.ref l[i].2)) >>= _) _ _ s'
    refine wpAny_bind (wpAny_holding ?_); unfold setAdd
    refine wpAny_holding ?_
    have hu1 : A.in1.units < cLine := by rw [Around.in1_units]; omega
    refine wpAny_bind (wpAny_pyHash_tuple hu1 hm1.1 ?_)
    refine set_add (s := { s' with toks := s'.toks + (l[i].1.length + 1) }) hu1 hS' hm1.1 hm1.2.1 (by omega) fun r h'' zs' sb hz' hin hnin => ?_
    refine wpAny_pure ⟨plainId_quiet PyProof.Rows.F.plain_set_update_loop _, ih (i + 1) _ zs' (by omega) hlt ?_ hz' ?_ ?_ ?_ ?_⟩
    · exact W.frame (i + 1) s' h'' _ hst' (Nat.le_add_right _ _) fun b hb o e => by
        have ne : b ≠ S := by
          simp only [List.mem_cons, List.not_mem_nil, or_false] at hb; rcases hb with rfl | rfl
          · exact Ne.symm hSI
          · exact Ne.symm hSp
        exact (sb.2 b ne).trans e
    · rw [List.take_succ, List.getElem?_eq_getElem hlt, Option.toList_some]
      by_cases c : l[i].1 ∈ zs.map (·.1)
      · rw [hin c]
        refine ⟨fun z hzz => List.mem_append_left _ (hF.from_ z hzz), fun k => ?_⟩
        rw [hF.keys k, List.map_append, List.mem_append, List.map_cons, List.map_nil, List.mem_singleton]
        constructor
        · exact .inl
        · rintro (q | q)
          · exact q
          · subst q; exact (hF.keys _).mp c
      · have pz := hnin c
        refine ⟨fun z hzz => ?_, fun k => ?_⟩
        · rcases List.mem_cons.mp (pz.mem_iff.mp hzz) with q | q
          · exact List.mem_append_right _ (by rw [q]; simp)
          · exact List.mem_append_left _ (hF.from_ z q)
        · rw [(pz.map (·.1)).mem_iff, List.map_cons, List.mem_cons, hF.keys k, List.map_append, List.mem_append, List.map_cons, List.map_nil, List.mem_singleton]
          constructor
          · rintro (q | q)
            · exact .inr q
            · exact .inl q
          · rintro (q | q)
            · exact .inr q
            · exact .inl q
    · by_cases c : l[i].1 ∈ zs.map (·.1)
      · rw [hin c]; omega
      · rw [(hnin c).length_eq, List.length_cons]; omega
    · intro x hx
      obtain ⟨⟨o1, it1, n1, a1, a2⟩, ⟨o2, it2, n2, b1, b2⟩, h3, h4⟩ := hl' x hx
      exact ⟨⟨o1, it1, n1, (sb.2 _ h4).trans a1, a2⟩, ⟨o2, it2, n2, (sb.2 _ h4).trans b1, b2⟩, h3, h4⟩
    · intro s'' zs'' k2 g2 o2 d2 hz2 hf2
      exact hR s'' zs'' (fun b o hb hbI e => k2 b o hb hbI ((sb.2 b hb).trans (kp b o hbI e))) (g2.trans hm.gens) (o2.trans hm.os) (d2.trans hm.drawn) hz2 hf2
theorem upd_list {p S : Addr} {items : Array Value} {l : List (List K × Addr)} {led : Bool} {Q : Unit → Shared → Prop} (hh : A.handled = none) (hu : A.units + 4 < cLine) (hled : led = !(w.params.followText "set-order")) (hS : s.heap.get? S = some (freshSet led)) (hp : s.heap.IsList p items) (hi : items.toList = l.map fun x => Value.ref x.2) (hll : l.length ≤ 36)
    (htx : ∀ x ∈ l, IsTupleKey kn s.heap x.1 x.2 ∧ Texty s.heap x.2) (h : ∀ s' zs, (∀ b o, b ≠ S → s.heap.get? b = some o → s'.heap.get? b = some o) → s'.gens = s.gens → s'.os = s.os → s'.drawn = s.drawn → SetOfT kn s'.heap S zs → Firsts zs l → Q () s') :
    wpAny (model prog w) A (Builtin.Frozenset.updateFrom "set.__init__" S (.ref p)) Q E s := by
  have hT := hp.typeIs
  have hp0 := hp
  obtain ⟨op, hop, hcp, np, hdp⟩ := hp
  have hlt := Heap.lt_size hop
  have hSlt := Heap.lt_size hS
  unfold Builtin.Frozenset.updateFrom Builtin.Frozenset.isAnySet
  have q1 := PySem.F.sub_list_set
  have q2 := PySem.F.sub_list_frozenset
  have q3 : (Value.type "list" == Value.type "dict") = false := by decide
  generalize hPI : pyIter = PI
  wp_walk
  subst hPI
  refine wpAny_pyIter_list hp0 ?_
  refine wpAny_bind (wpAny_runValue ?_); generalize hoi : ({ cls := Value.type "list_iterator", data := Data.fields #[Value.ref p, Value.int 0 0] } : Obj) = oI
  have k1 : ∀ b o, s.heap.get? b = some o → (s.heap.push oI).get? b = some o := fun b o e => Heap.get?_push_of_some _ e
  have ne : ∀ b o, s.heap.get? b = some o → b ≠ s.heap.objs.size := fun b o e => Nat.ne_of_lt (Heap.lt_size e)
  have hSp : S ≠ p := by
    rintro rfl
    rw [hS] at hop
    cases hop
    cases hdp
  have neS : ∀ x ∈ l, x.2 ≠ S := fun x hx z => by
    obtain ⟨⟨o1, it1, n1, a1, a2, a3, a4⟩, _⟩ := htx x hx
    rw [z, hS] at a1
    cases a1
    cases a3
  refine fill_loop (kn := kn) (I := s.heap.objs.size) (p := p) (items := items) hi hh (by omega) (Nat.ne_of_lt hlt) (Nat.ne_of_lt hSlt) hSp hll l.length 0 { s with heap := s.heap.push oI } [] (by omega) (Nat.zero_le _) ⟨⟨oI, Heap.get?_push_size _ (by rw [← hoi]; rfl), by rw [← hoi], by rw [← hoi]; rfl⟩, ⟨op, k1 _ _ hop, hcp, np, hdp⟩⟩ (fresh_set hled (k1 _ _ hS)) ⟨fun z hz => by simp at hz, fun k => by simp⟩ (Nat.zero_le _) (fun x hx => ?_) fun s' zs' kp g o d hz hf => ?_
  · obtain ⟨⟨o1, it1, n1, a1, a2⟩, ⟨o2, it2, n2, b1, b2⟩⟩ := htx x hx
    exact ⟨⟨o1, it1, n1, k1 _ _ a1, a2⟩, ⟨o2, it2, n2, k1 _ _ b1, b2⟩, ne _ _ a1, neS x hx⟩
  · refine wpAny_pure ?_
    exact h s' zs' (fun b ob hb e => kp b ob hb (ne _ _ e) (k1 _ _ e)) g o d hz hf
end
end LS
set_option maxRecDepth 100000
set_option maxHeartbeats 3200000
namespace L2
open PySem PySem.Spec PyProof.Rows LS
def setO (P : Program) (w : World) (a : Addr) (zs : List (List Key × Addr)) : HO := .ext fun h => ∃ o es ep t, h.get? a = some o ∧ o.ExactSet ∧ o.data = .set es ep t ∧ es.toList = (zs.map fun x => (tupleKeyHash (mixKind P w) x.1, Value.ref x.2)) ∧ (zs.map (·.1)).Nodup ∧
  Tab t (zs.map fun x => tupleKeyHash (mixKind P w) x.1) ∧ zs.length * 5 < t.mask * 3 ∧ Flags w zs.length t
def KeysAt (H : Hp) (zs : List (List Key × Addr)) : Prop := ∀ z ∈ zs, H z.2 = some (.tup (z.1.map kV))
def TxtKey (k : List Key) : Prop := k ≠ [] ∧ ∀ x ∈ k, ∃ y : Str, x = Sum.inr y
section
variable {X : Cx} {pins : List (Addr × Obj)} {σ : St} {H : Hp} {s : Shared}
theorem Inv.redrawn (I : Inv X pins σ H s) (d : Drawn) : Inv X pins σ H { s with drawn := d } := ⟨I.ok, I.os, I.bare, I.base, I.loc, I.cell, I.free, I.freeC, I.pin, I.hok, I.len⟩
theorem setO_ok {P : Program} {w : World} {H' : Hp} {h : Heap} {a : Addr} {zs : List (List Key × Addr)} (x : SetOfT (mixKind P w) h a zs) : ObjOk P w H' h a (setO P w a zs) := by
  obtain ⟨o, es, ep, t, h1, h2, h3, S, h5⟩ := x
  refine ⟨⟨o, es, ep, t, h1, h2, h3, S.es, S.nd, S.tab, S.cap, h5⟩, ⟨o, h1⟩, fun g1 g2 ⟨o', es', ep', t', q1, q⟩ k => ⟨o', es', ep', t', k _ q1, q⟩⟩
theorem setO_is {P : Program} {w : World} {h : Heap} {a : Addr} {zs : List (List Key × Addr)} (ok : HOk P w H h) (e : H a = some (setO P w a zs)) (hk : KeysAt H zs) : SetOfT (mixKind P w) h a zs := by
  obtain ⟨o, es, ep, t, h1, h2, h3, h4, h5, h6, h7, h8⟩ := (ok _ _ e).1
  exact ⟨o, es, ep, t, h1, h2, h3, ⟨h4, fun x hx => key_of ok (hk x hx), h5, h6, h7⟩, h8⟩
theorem texts_of : ∀ {k : List Key} {us : List Value}, Vals (k.map kV) us → (∀ x ∈ k, ∃ y : Str, x = Sum.inr y) → ∀ u ∈ us, ∃ y t, u = Value.str y t
  | [], _, r, _ => by rw [List.map_nil] at r; cases r; intro u hu; simp at hu
  | x :: k, _, r, h => by
    rw [List.map_cons] at r
    cases r with
    | cons h1 t1 =>
      intro u hu
      rcases List.mem_cons.mp hu with rfl | hu
      · obtain ⟨y, rfl⟩ := h x (by simp)
        obtain ⟨t, e⟩ := (show ∃ t, u = Value.str y t from h1)
        exact ⟨y, t, e⟩
      · exact texts_of t1 (fun z hz => h z (by simp [hz])) u hu
theorem txtTup_of {P : Program} {w : World} {h : Heap} {b : Addr} {k : List Key} (ok : HOk P w H h) (e : H b = some (.tup (k.map kV))) (hk : TxtKey k) : TxtTup h b ∧ Texty h b := by
  obtain ⟨_, its, r, o, h1, h2, n, h3⟩ := (show ObjOk P w H h b (.tup (k.map kV)) from ok b _ e)
  have tx := texts_of r hk.2
  obtain ⟨u, us, rfl⟩ : ∃ u us, its = u :: us := by
    cases its with
    | nil => have := r.length; simp at this; exact absurd this hk.1
    | cons u us => exact ⟨u, us, rfl⟩
  obtain ⟨y, t, rfl⟩ := tx u (by simp)
  refine ⟨⟨o, y, t, us, n, h1, h2, h3, fun v hv => tx v (by simp [hv])⟩, ⟨o, _, n, h1, h2, h3, fun v hv => ?_, ?_⟩⟩
  · obtain ⟨y', t', rfl⟩ := tx v (by simpa using hv)
    rfl
  · simp [plainKind]
def rSetD : (P : Program) → (w : World) → List V → Hp → VK → Prop := fun P w xs H Q => ∃ d kvs, xs = [V.ref d] ∧ H d = some (.dT kvs) ∧ kvs.length ≤ 36 ∧ (∀ kv ∈ kvs, TxtKey kv.1) ∧
  ∀ p zs, H p = none → (zs.map (·.1)).Perm (kvs.map (·.1)) → KeysAt H zs → Q (.ref p) (upd H p (setO P w p zs))
theorem call_setD (hu : X.A.units + 64 < cLine) : CallR X (.type "set") (rSetD X.prog X.w) := by
  intro pins s σ H xs us Q I r h
  obtain ⟨d, kvs, rfl, hd, hl, htk, q⟩ := h
  obtain ⟨u, rfl, rx⟩ := vals1 r
  cases rx
  obtain ⟨z1, z2, ys, rel, dd⟩ := dt_of I.hok hd
  have keys : ∀ {l : List (List Key × V)} {m : List (List Key × Addr × Value)}, KT H l m → l.map (·.1) = m.map (·.1) ∧ ∀ x ∈ m, H x.2.1 = some (.tup (x.1.map kV)) := by
    intro l m k
    induction k with
    | nil => exact ⟨rfl, fun x hx => by simp at hx⟩
    | @cons p q ps qs hq t ih =>
      refine ⟨by rw [List.map_cons, List.map_cons, hq.1, ih.1], fun x hx => ?_⟩; rcases List.mem_cons.mp hx with e | hx
      · subst e; rw [← hq.1]; exact hq.2.1
      · exact ih.2 x hx
  obtain ⟨ke, kh⟩ := keys rel
  have tk : ∀ x ∈ ys, TxtKey x.1 := fun x hx => by
    have : x.1 ∈ kvs.map (·.1) := by rw [ke]; exact List.mem_map.mpr ⟨x, hx, rfl⟩
    obtain ⟨kv, h1, h2⟩ := List.mem_map.mp this
    rw [← h2]; exact htk kv h1
  have hlen : ys.length ≤ 36 := by rw [← Paired.length rel]; exact hl
  refine set_of fun led A' hled hA hH => ?_
  have k0 : ∀ b o, s.heap.get? b = some o → (s.heap.push (freshSet led)).get? b = some o := fun b o e => Heap.get?_push_of_some _ e
  have hS : (s.heap.push (freshSet led)).get? s.heap.objs.size = some (freshSet led) := Heap.get?_push_size _ rfl
  have I0 : Inv X pins σ H { s with heap := s.heap.push (freshSet led) } := I.kept (t' := s.toks) k0
  obtain ⟨z1', z2', ys', rel', dd'⟩ := dt_of I0.hok hd
  obtain ⟨ke', kh'⟩ := keys rel'
  have tk' : ∀ x ∈ ys', TxtKey x.1 := fun x hx => by
    have : x.1 ∈ kvs.map (·.1) := by rw [ke']; exact List.mem_map.mpr ⟨x, hx, rfl⟩
    obtain ⟨kv, h1, h2⟩ := List.mem_map.mp this
    rw [← h2]; exact htk kv h1
  have hlen' : ys'.length ≤ 36 := by rw [← Paired.length rel']; exact hl
  refine upd_dict (s := { s with heap := s.heap.push (freshSet led) }) (kn := mixKind X.prog X.w) (by omega) hled hS dd' z2' hlen' (fun x hx => (txtTup_of I0.hok (kh' x hx) (tk' x hx)).2) fun h' zs sb hz hp => ?_
  have keep := same_keeps k0 (none_size s.heap) sb
  refine ⟨.ref s.heap.objs.size, _, I.laid (t' := s.toks) keep (Nat.le_refl _) (setO_ok hz), rfl, q _ zs (I.hok.fresh (Nat.le_refl _)) ?_ fun z hzz => ?_⟩
  · rw [ke']
    have := hp.map (·.1)
    rw [List.map_map] at this
    exact this
  · obtain ⟨x, hx, rfl⟩ := List.mem_map.mp (hp.mem_iff.mp hzz)
    exact kh' x hx
def rSetOr (P : Program) (w : World) : R2 := fun x y H Q => ∃ a b zs ws, x = V.ref a ∧ y = V.ref b ∧ H a = some (setO P w a zs) ∧ H b = some (setO P w b ws) ∧ a ≠ b ∧ KeysAt H zs ∧ KeysAt H ws ∧ (∀ z ∈ zs, TxtKey z.1) ∧ (∀ z ∈ ws, TxtKey z.1) ∧ zs.length + ws.length ≤ 36 ∧
  ∀ p vs, H p = none → Both vs zs ws → (vs.map (·.1)).Nodup → Q (.ref p) (upd H p (setO P w p vs))
theorem op_setOr (hu : X.A.units + 64 < cLine) : OpR X (binaryOp .BitOr) (rSetOr X.prog X.w) := by
  intro pins s σ H x y v u Q I rx ry h
  obtain ⟨a, b, zs, ws, rfl, rfl, ha, hb, hab, ka, kb, ta, tb, hn, q⟩ := h
  cases rx
  cases ry
  have tx : ∀ {l : List (List Key × Addr)}, KeysAt H l → (∀ z ∈ l, TxtKey z.1) → ∀ y ∈ l, Texty s.heap y.2 := fun k t y hy => (txtTup_of I.hok (k y hy) (t y hy)).2
  refine set_union (by omega) (setO_is I.hok ha ka) (setO_is I.hok hb kb) hab (tx ka ta) (tx kb tb) hn fun h' d' vs keep hz bth => ?_
  refine ⟨.ref s.heap.objs.size, _, (I.redrawn d').laid (t' := s.toks) (h' := h') keep (Nat.le_refl _) (setO_ok hz), rfl, q _ vs (I.hok.fresh (Nat.le_refl _)) bth ?_⟩
  obtain ⟨_, _, _, _, _, _, _, S, _⟩ := hz
  exact S.nd
def rSortS (P : Program) (w : World) : List V → Hp → VK → Prop := fun xs H Q => ∃ a zs, xs = [V.ref a] ∧ H a = some (setO P w a zs) ∧ KeysAt H zs ∧ (∀ z ∈ zs, TxtKey z.1) ∧ zs.length < 64 ∧ ∀ (p : Addr) (bs : List Addr), H p = none → bs.Perm (zs.map (·.2)) → Q (.ref p) (upd H p (.lst (bs.map V.ref)))
theorem refs_of : ∀ {vs : List Value} {bs : List Addr}, vs.Perm (bs.map Value.ref) → ∃ cs : List Addr, vs = cs.map Value.ref ∧ cs.Perm bs := fun h => perm_map_inv h
theorem vals_refs : ∀ cs : List Addr, Vals (cs.map V.ref) (cs.map Value.ref)
  | [] => .nil
  | c :: cs => .cons rfl (vals_refs cs)
theorem call_sortS (hc : X.calm = true) : CallR X (.builtin "sorted") (rSortS X.prog X.w) := by
  intro pins s σ H xs us Q I r h
  obtain ⟨a, zs, rfl, ha, ka, ta, hn, q⟩ := h
  obtain ⟨u, rfl, rx⟩ := vals1 r
  cases rx
  refine sorted_set (I.ok.hd hc) (setO_is I.hok ha ka) (fun x hx => (txtTup_of I.hok (ka x hx) (ta x hx)).1) hn fun s' l out e keep hg hos hl hol hp => ?_
  rw [show (zs.map fun x => Value.ref x.2) = (zs.map (·.2)).map Value.ref by rw [List.map_map]; rfl] at hp
  obtain ⟨bs, eb, pb⟩ := refs_of hp
  have hlen : bs.length = zs.length := by rw [pb.length_eq, List.length_map]
  have I1 : Inv X pins σ (upd H l (.lst (bs.map V.ref))) { s with heap := s'.heap, toks := s'.toks } := I.laid (t' := s'.toks) keep hl ⟨le_line (by rw [List.length_map, hlen]; omega), bs.map Value.ref, e, vals_refs bs, by
    rw [hol]
    have : out = (bs.map Value.ref).toArray := by rw [← eb]
    rw [this]⟩
  have es : s' = { ({ s with heap := s'.heap, toks := s'.toks } : Shared) with drawn := s'.drawn } := by
    cases s'
    simp only at hg hos ⊢
    rw [hg, hos]
  refine ⟨.ref l, _, ?_, rfl, q l bs (I.hok.fresh hl) pb⟩
  rw [es]
  exact I1.redrawn _
theorem call_lenS : CallR X (.builtin "len") (fun xs H Q => ∃ a zs, xs = [V.ref a] ∧ H a = some (setO X.prog X.w a zs) ∧ KeysAt H zs ∧ Q (.int zs.length) H) := by
  intro pins s σ H xs us Q I r h
  obtain ⟨a, zs, rfl, ha, ka, q⟩ := h
  obtain ⟨u, rfl, rx⟩ := vals1 r
  cases rx
  obtain ⟨o, es, ep, t, h1, h2, h3, S, h5⟩ := setO_is I.hok ha ka
  have hs := S.size
  have small : es.size < 128 := by
    have := S.cap
    rcases S.tab.mask with z | z | z | z | z <;> omega
  refine call_len_set h1 h2 h3 S.fits (by omega) ⟨.int zs.length, H, I.tok _, ⟨s.toks + 1, by rw [hs]⟩, q⟩
end
theorem boot_set : bootBuiltins "set" = Option.some (Value.type "set") := by decide +kernel
end L2
set_option maxRecDepth 100000
set_option maxHeartbeats 1600000
namespace LS
open PySem
section
variable {w : World} {prog : Program} {A : Around} {E : Value → Shared → Prop} {s : Shared}
def RawD (h : Heap) (d : Addr) (es : Array DictEntry) (ep : Nat) : Prop := ∃ o, h.get? d = some o ∧ o.ExactDict ∧ o.data = .dict es ep
theorem RawD.typeIs {d : Addr} {es : Array DictEntry} {ep : Nat} (x : RawD s.heap d es ep) : s.TypeIs (.ref d) "dict" := let ⟨o, a, b, _⟩ := x; ⟨o, a, b.1⟩
theorem RawD.keep {h h' : Heap} {d : Addr} {es : Array DictEntry} {ep : Nat} (x : RawD h d es ep) (k : ∀ o, h.get? d = some o → h'.get? d = some o) : RawD h' d es ep := let ⟨o, a, b⟩ := x; ⟨o, k o a, b⟩
theorem iter_raw {d : Addr} {es : Array DictEntry} {ep : Nat} {Q : Value → Shared → Prop} (hd : (d == sysModules) = false) (hm : RawD s.heap d es ep)
    (hQ : Q (.ref s.heap.objs.size) { s with heap := s.heap.push { cls := .type "dict_keyiterator", data := .fields #[.ref d, .int 0 0, .int es.size 0, .int ep 0] } }) : wpAny (model prog w) A (pyIter (.ref d)) Q E s := by
  have hT := hm.typeIs
  obtain ⟨o, ho, hc, hdat⟩ := hm
  refine wpAny_pyIter_slot hT F.slot_dict_iter (wpAny_call_entry F.slot_dict_iter hT F.entry_dict_iter ?_ (F.args_dict_iter_1 _)); unfold Builtin.«dict.__iter__» Builtin.Dict.dictSlotNone
  refine wpAny_bind (wpAny_bind (wpAny_notOrdered_dict hT ?_))
  show wpAny _ _ (pure (Value.ref d)) _ _ s; refine wpAny_pure ?_
  show wpAny _ _ (Builtin.Dict.showsAll d >>= _) _ _ s; unfold Builtin.Dict.showsAll
  rw [hd, if_neg Bool.false_ne_true]
  refine wpAny_bind (wpAny_pure (wpAny_bind (wpAny_dictEntries ho hdat (wpAny_bind (wpAny_dictEpoch ho hdat ?_)))))
  exact wpAny_bind (wpAny_newObj_type (wpAny_pure ⟨_, rfl, "dict_keyiterator", _, ⟨_, Heap.get?_push_size _ rfl, rfl⟩, F.slot_dict_keyiterator_next.lookup, hQ⟩))
theorem next_key {it d : Addr} {i ep : Nat} {es : Array DictEntry} {e : DictEntry} {Q : Option Value → Shared → Prop} (hit : s.heap.IsKeyIter it d i es.size ep) (hm : RawD s.heap d es ep) (hx : es[i]? = some e)
    (hQ : ∀ h', h'.IsKeyIter it d (i + 1) es.size ep → Heap.SameBut it s.heap h' → Q (some e.key) { s with heap := h' }) : wpAny (model prog w) A (pyNext (.ref it)) Q E s := by
  have hT := hit.typeIs
  obtain ⟨o, ho, hc, hd⟩ := id hit; obtain ⟨od, hod, hcd, hdd⟩ := hm
  unfold pyNext
  refine wpAny_bind (wpAny_attempt (wpAny_callSpecial?_slot (name := Str.ofString "__next__") hT F.slot_dict_keyiterator_next (wpAny_call_entry F.slot_dict_keyiterator_next hT F.entry_dict_keyiterator_next ?_ (F.args_dict_keyiterator_next_1 _))))
  refine wpAny_bind (wpAny_pure (wpAny_bind (wpAny_bind (wpAny_bind (wpAny_typeNameOfWhole_keyiter hT (wpAny_pure (wpAny_bind (wpAny_fieldsOf ho hd ?_))))))))
  simp only [show Builtin.Dict_items.ownsTuple "dict_keyiterator" = false from by decide, Bool.false_eq_true, if_false]
  show wpAny _ _ (if (Value.ref d == Value.none) = true then _ else _) _ _ s; rw [show (Value.ref d == Value.none) = false from rfl, if_neg Bool.false_ne_true]
  refine wpAny_bind (wpAny_pure (wpAny_bind (wpAny_dictEntries hod hdd ?_)))
  rw [if_neg (by simp)]
  refine wpAny_bind (wpAny_pure (wpAny_bind (wpAny_dictEpoch hod hdd ?_)))
  rw [if_neg (by simp)]
  have hlt : i < es.size := (Array.getElem?_eq_some_iff.mp hx).1
  have he : es[i] = e := (Array.getElem?_eq_some_iff.mp hx).2
  refine wpAny_pure ?_
  simp only [show ¬ ((i : Int) < 0) from by omega, if_false, Int.toNat_natCast, hx]
  refine wpAny_bind (wpAny_bind (wpAny_typeNameOfWhole_keyiter hT (wpAny_pure (wpAny_bind (wpAny_isOneOf_keyiter hT ?_)))))
  show wpAny _ _ (setField (.ref it) 1 (rawInt ((i : Int) + 1)) >>= _) _ _ s; refine wpAny_bind (wpAny_setField ho hd (by simp) ?_)
  generalize hh : s.heap.update it (Obj.mapFields (·.setIfInBounds 1 (rawInt ((i : Int) + 1)))) = h1
  have hit' : h1.IsKeyIter it d (i + 1) es.size ep := ⟨_, by rw [← hh]; exact Heap.get?_update_self _ ho (Obj.isFreed_of_fields (Obj.data_mapFields hd _)), (Obj.cls_mapFields ..).trans hc, by rw [Obj.data_mapFields hd]; simp [rawInt]⟩
  have sb : Heap.SameBut it s.heap h1 := by rw [← hh]; exact Heap.SameBut.update ..
  have hT1 : Shared.TypeIs { s with heap := h1 } (.ref it) "dict_keyiterator" := hit'.typeIs
  refine wpAny_bind (wpAny_holding (wpAny_bind (wpAny_isOneOf_keyiter hT1 ?_)))
  show wpAny _ _ (pure e.key) _ _ _; exact wpAny_pure (wpAny_pure ⟨_, rfl, wpAny_pure (hQ h1 hit' sb)⟩)
theorem end_key {it d : Addr} {i ep : Nat} {es : Array DictEntry} {Q : Option Value → Shared → Prop} (hh : A.handled = none) (hit : s.heap.IsKeyIter it d i es.size ep) (hm : RawD s.heap d es ep) (hx : es.size ≤ i) (hQ : ∀ h', Heap.ExtBut it s.heap h' → Q none { s with heap := h' }) : wpAny (model prog w) A (pyNext (.ref it)) Q E s := by
  have hT := hit.typeIs
  obtain ⟨o, ho, hc, hd⟩ := id hit; obtain ⟨od, hod, hcd, hdd⟩ := hm
  unfold pyNext
  refine wpAny_bind (wpAny_attempt (wpAny_callSpecial?_slot (name := Str.ofString "__next__") hT F.slot_dict_keyiterator_next (wpAny_call_entry F.slot_dict_keyiterator_next hT F.entry_dict_keyiterator_next ?_ (F.args_dict_keyiterator_next_1 _))))
  refine wpAny_bind (wpAny_pure (wpAny_bind (wpAny_bind (wpAny_bind (wpAny_typeNameOfWhole_keyiter hT (wpAny_pure (wpAny_bind (wpAny_fieldsOf ho hd ?_))))))))
  simp only [show Builtin.Dict_items.ownsTuple "dict_keyiterator" = false from by decide, Bool.false_eq_true, if_false]
  show wpAny _ _ (if (Value.ref d == Value.none) = true then _ else _) _ _ s; rw [show (Value.ref d == Value.none) = false from rfl, if_neg Bool.false_ne_true]
  refine wpAny_bind (wpAny_pure (wpAny_bind (wpAny_dictEntries hod hdd ?_)))
  rw [if_neg (by simp)]
  refine wpAny_bind (wpAny_pure (wpAny_bind (wpAny_dictEpoch hod hdd ?_)))
  rw [if_neg (by simp)]
  refine wpAny_pure ?_
  simp only [show ¬ ((i : Int) < 0) from by omega, if_false, Int.toNat_natCast, Array.getElem?_eq_none hx]
  refine wpAny_bind (wpAny_bind (wpAny_typeNameOfWhole_keyiter hT (wpAny_pure ?_)))
  show wpAny _ _ (setField (.ref it) 0 .none >>= _) _ _ s; refine wpAny_bind (wpAny_setField ho hd (by simp) ?_)
  show wpAny _ _ (newExc (.type "StopIteration") [] >>= _) _ _ _; refine wpAny_bind ?_
  simp only [newExc, newTuple]; refine wpAny_bind (wpAny_newObj_type ?_ (by size_fits))
  refine wpAny_bind (m := firstArgMember _ _) (wpAny_of_eq (a := Value.none) (by first | rfl | (simp only [firstArgMember]; rfl)) (wpAny_newObj_type ?_ (by size_fits)))
  simp only [raiseNew]; refine wpAny_bind (wpAny_handled ?_); rw [show A.in1.handled = none from hh]
  refine wpAny_bind (wpAny_pure (wpAny_throw ?_)); refine wpAny_bind (wpAny_isInstance (b := true) (T := "StopIteration") ⟨_, Heap.get?_push_size _ rfl, rfl⟩ isSubtype_stop (wpAny_pure ?_))
  exact hQ _ (((Heap.SameBut.update ..).extBut.push _).push _)
theorem next_val {it d : Addr} {i ep : Nat} {es : Array DictEntry} {e : DictEntry} {Q : Option Value → Shared → Prop} (hit : s.heap.IsValIter it d i es.size ep) (hm : RawD s.heap d es ep) (hx : es[i]? = some e)
    (hQ : ∀ h', h'.IsValIter it d (i + 1) es.size ep → Heap.SameBut it s.heap h' → Q (some e.val) { s with heap := h' }) : wpAny (model prog w) A (pyNext (.ref it)) Q E s := by
  have hT := hit.typeIs
  obtain ⟨o, ho, hc, hd⟩ := id hit; obtain ⟨od, hod, hcd, hdd⟩ := hm
  unfold pyNext
  refine wpAny_bind (wpAny_attempt (wpAny_callSpecial?_slot (name := Str.ofString "__next__") hT F.slot_dict_valueiterator_next (wpAny_call_entry F.slot_dict_valueiterator_next hT F.entry_dict_valueiterator_next ?_ (F.args_dict_valueiterator_next_1 _))))
  refine wpAny_bind (wpAny_pure (wpAny_bind (wpAny_bind (wpAny_bind (wpAny_typeNameOfWhole_valiter hT (wpAny_pure (wpAny_bind (wpAny_fieldsOf ho hd ?_))))))))
  simp only [show Builtin.Dict_items.ownsTuple "dict_valueiterator" = false from by decide, Bool.false_eq_true, if_false]
  show wpAny _ _ (if (Value.ref d == Value.none) = true then _ else _) _ _ s; rw [show (Value.ref d == Value.none) = false from rfl, if_neg Bool.false_ne_true]
  refine wpAny_bind (wpAny_pure (wpAny_bind (wpAny_dictEntries hod hdd ?_)))
  rw [if_neg (by simp)]
  refine wpAny_bind (wpAny_pure (wpAny_bind (wpAny_dictEpoch hod hdd ?_)))
  rw [if_neg (by simp)]
  have hlt : i < es.size := (Array.getElem?_eq_some_iff.mp hx).1
  have he : es[i] = e := (Array.getElem?_eq_some_iff.mp hx).2
  refine wpAny_pure ?_
  simp only [show ¬ ((i : Int) < 0) from by omega, if_false, Int.toNat_natCast, hx]
  refine wpAny_bind (wpAny_bind (wpAny_typeNameOfWhole_valiter hT (wpAny_pure (wpAny_bind (wpAny_isOneOf_valiter hT ?_)))))
  show wpAny _ _ (setField (.ref it) 1 (rawInt ((i : Int) + 1)) >>= _) _ _ s; refine wpAny_bind (wpAny_setField ho hd (by simp) ?_)
  generalize hh : s.heap.update it (Obj.mapFields (·.setIfInBounds 1 (rawInt ((i : Int) + 1)))) = h1
  have hit' : h1.IsValIter it d (i + 1) es.size ep := ⟨_, by rw [← hh]; exact Heap.get?_update_self _ ho (Obj.isFreed_of_fields (Obj.data_mapFields hd _)), (Obj.cls_mapFields ..).trans hc, by rw [Obj.data_mapFields hd]; simp [rawInt]⟩
  have sb : Heap.SameBut it s.heap h1 := by rw [← hh]; exact Heap.SameBut.update ..
  have hT1 : Shared.TypeIs { s with heap := h1 } (.ref it) "dict_valueiterator" := hit'.typeIs
  refine wpAny_bind (wpAny_holding (wpAny_bind (wpAny_isOneOf_valiter hT1 (wpAny_bind (wpAny_isOneOf_valiter hT1 ?_)))))
  show wpAny _ _ (pure e.val) _ _ _; exact wpAny_pure (wpAny_pure ⟨_, rfl, wpAny_pure (hQ h1 hit' sb)⟩)
theorem end_val {it d : Addr} {i ep : Nat} {es : Array DictEntry} {Q : Option Value → Shared → Prop} (hh : A.handled = none) (hit : s.heap.IsValIter it d i es.size ep) (hm : RawD s.heap d es ep) (hx : es.size ≤ i) (hQ : ∀ h', Heap.ExtBut it s.heap h' → Q none { s with heap := h' }) : wpAny (model prog w) A (pyNext (.ref it)) Q E s := by
  have hT := hit.typeIs
  obtain ⟨o, ho, hc, hd⟩ := id hit; obtain ⟨od, hod, hcd, hdd⟩ := hm
  unfold pyNext
  refine wpAny_bind (wpAny_attempt (wpAny_callSpecial?_slot (name := Str.ofString "__next__") hT F.slot_dict_valueiterator_next (wpAny_call_entry F.slot_dict_valueiterator_next hT F.entry_dict_valueiterator_next ?_ (F.args_dict_valueiterator_next_1 _))))
  refine wpAny_bind (wpAny_pure (wpAny_bind (wpAny_bind (wpAny_bind (wpAny_typeNameOfWhole_valiter hT (wpAny_pure (wpAny_bind (wpAny_fieldsOf ho hd ?_))))))))
  simp only [show Builtin.Dict_items.ownsTuple "dict_valueiterator" = false from by decide, Bool.false_eq_true, if_false]
  show wpAny _ _ (if (Value.ref d == Value.none) = true then _ else _) _ _ s; rw [show (Value.ref d == Value.none) = false from rfl, if_neg Bool.false_ne_true]
  refine wpAny_bind (wpAny_pure (wpAny_bind (wpAny_dictEntries hod hdd ?_)))
  rw [if_neg (by simp)]
  refine wpAny_bind (wpAny_pure (wpAny_bind (wpAny_dictEpoch hod hdd ?_)))
  rw [if_neg (by simp)]
  refine wpAny_pure ?_
  simp only [show ¬ ((i : Int) < 0) from by omega, if_false, Int.toNat_natCast, Array.getElem?_eq_none hx]
  refine wpAny_bind (wpAny_bind (wpAny_typeNameOfWhole_valiter hT (wpAny_pure ?_)))
  show wpAny _ _ (setField (.ref it) 0 .none >>= _) _ _ s; refine wpAny_bind (wpAny_setField ho hd (by simp) ?_)
  show wpAny _ _ (newExc (.type "StopIteration") [] >>= _) _ _ _; refine wpAny_bind ?_
  simp only [newExc, newTuple]; refine wpAny_bind (wpAny_newObj_type ?_ (by size_fits))
  refine wpAny_bind (m := firstArgMember _ _) (wpAny_of_eq (a := Value.none) (by first | rfl | (simp only [firstArgMember]; rfl)) (wpAny_newObj_type ?_ (by size_fits)))
  simp only [raiseNew]; refine wpAny_bind (wpAny_handled ?_); rw [show A.in1.handled = none from hh]
  refine wpAny_bind (wpAny_pure (wpAny_throw ?_)); refine wpAny_bind (wpAny_isInstance (b := true) (T := "StopIteration") ⟨_, Heap.get?_push_size _ rfl, rfl⟩ isSubtype_stop (wpAny_pure ?_))
  exact hQ _ (((Heap.SameBut.update ..).extBut.push _).push _)
theorem vals_raw {d : Addr} {es : Array DictEntry} {ep : Nat} {Q : Value → Shared → Prop} (hd : (d == sysModules) = false) (hm : RawD s.heap d es ep)
    (h : Q (.ref s.heap.objs.size) { s with heap := s.heap.push { cls := .type "dict_values", data := .fields #[.ref d] } }) : wpAny (model prog w) A (call (.builtin "dict.values") [.ref d]) Q E s := by
  have hT := hm.typeIs
  refine wpAny_call_entry F.slot_dict_values hT F.entry_dict_values ?_ (F.args_dict_values_1 _)
  refine wpAny_bind ?_; unfold Builtin.Dict.noArgs; refine wpAny_bind (wpAny_notOrdered_dict hT ?_); show wpAny _ _ (pure d) _ _ s
  refine wpAny_pure ?_
  show wpAny _ _ (Builtin.Dict.showsAll d >>= _) _ _ s; unfold Builtin.Dict.showsAll
  rw [hd, if_neg Bool.false_ne_true]
  exact wpAny_bind (wpAny_pure (wpAny_bind (wpAny_newObj_type (wpAny_pure ⟨_, rfl, h⟩))))
theorem items_raw {d : Addr} {es : Array DictEntry} {ep : Nat} {Q : Value → Shared → Prop} (hd : (d == sysModules) = false) (hm : RawD s.heap d es ep)
    (h : Q (.ref s.heap.objs.size) { s with heap := s.heap.push { cls := .type "dict_items", data := .fields #[.ref d] } }) : wpAny (model prog w) A (call (.builtin "dict.items") [.ref d]) Q E s := by
  have hT := hm.typeIs
  refine wpAny_call_entry F.slot_dict_items hT F.entry_dict_items ?_ (F.args_dict_items_1 _)
  unfold Builtin.«dict.items» Builtin.Dict.noArgs
  refine wpAny_bind (wpAny_bind (wpAny_notOrdered_dict hT ?_)); show wpAny _ _ (pure d) _ _ s
  refine wpAny_pure ?_
  show wpAny _ _ (Builtin.Dict.showsAll d >>= _) _ _ s; unfold Builtin.Dict.showsAll
  rw [hd, if_neg Bool.false_ne_true]
  exact wpAny_bind (wpAny_pure (wpAny_bind (wpAny_newObj_type (wpAny_pure ⟨_, rfl, h⟩))))
theorem iter_items {v d : Addr} {es : Array DictEntry} {ep : Nat} {Q : Value → Shared → Prop} (hv : s.heap.IsItemsView v d) (hm : RawD s.heap d es ep)
    (hQ : Q (.ref s.heap.objs.size) { s with heap := s.heap.push { cls := .type "dict_itemiterator", data := .fields #[.none, .bool false, .ref d, .int 0 0, .int es.size 0, .int ep 0, .none, .none] } }) : wpAny (model prog w) A (pyIter (.ref v)) Q E s := by
  have hT := hv.typeIs
  obtain ⟨ov, hov, hcv, hdv⟩ := hv
  obtain ⟨o, ho, hc, hdat⟩ := hm
  refine wpAny_pyIter_slot hT F.slot_dict_items_iter (wpAny_call_entry F.slot_dict_items_iter hT F.entry_dict_items_iter ?_ (F.args_dict_items_iter_1 _))
  unfold Builtin.«dict_items.__iter__» Builtin.Dict_items.dictOf
  refine wpAny_bind (wpAny_pure (wpAny_bind (wpAny_bind (wpAny_field hov hdv (x := .ref d) rfl (wpAny_pure (wpAny_bind ?_))))))
  unfold Builtin.Dict_items.newIterator; refine wpAny_bind (wpAny_dictEntries ho hdat (wpAny_bind (wpAny_dictEpoch ho hdat ?_)))
  simp only [show Builtin.Dict_items.ownsTuple "dict_itemiterator" = true from by decide, if_true]
  refine wpAny_newObj_type (wpAny_pure ⟨_, rfl, "dict_itemiterator", _, ⟨_, Heap.get?_push_size _ rfl, rfl⟩, F.slot_dict_itemiterator_next.lookup, ?_⟩) (by simp only [sizeOk, Builtin.Dict_items.ownedTupleFields, List.size_toArray, List.length_append, List.length_cons, List.length_nil, sizeLine_eq]; omega)
  exact hQ
theorem next_items {it d : Addr} {i ep : Nat} {es : Array DictEntry} {e : DictEntry} {ok ov : Value} {Q : Option Value → Shared → Prop} (hit : IsItemIter s.heap it d i es.size ep ok ov) (hm : RawD s.heap d es ep) (hx : es[i]? = some e)
    (hQ : ∀ h', IsItemIterOut h' it d (i + 1) es.size ep e.key e.val s.heap.objs.size → h'.get? s.heap.objs.size = some { cls := .type "tuple", data := .seq #[e.key, e.val] } → h'.objs.size = s.heap.objs.size + 1 → (∀ b o, b ≠ it → s.heap.get? b = some o → h'.get? b = some o) → Q (some (.ref s.heap.objs.size)) { s with heap := h' }) : wpAny (model prog w) A (pyNext (.ref it)) Q E s := by
  have hT : s.TypeIs (.ref it) "dict_itemiterator" := ⟨_, hit, rfl⟩; obtain ⟨od, hod, hcd, hdd⟩ := hm
  unfold pyNext
  refine wpAny_bind (wpAny_attempt (wpAny_callSpecial?_slot (name := Str.ofString "__next__") hT F.slot_dict_itemiterator_next (wpAny_call_entry F.slot_dict_itemiterator_next hT F.entry_dict_itemiterator_next ?_ (F.args_dict_itemiterator_next_1 _))))
  refine wpAny_bind (wpAny_pure (wpAny_bind (wpAny_bind (wpAny_bind (wpAny_typeNameOfWhole_itemiter hT (wpAny_pure (wpAny_bind (wpAny_fieldsOf hit rfl ?_))))))))
  simp only [show Builtin.Dict_items.ownsTuple "dict_itemiterator" = true from by decide, if_true]
  show wpAny _ _ (if (Value.ref d == Value.none) = true then _ else _) _ _ s; rw [show (Value.ref d == Value.none) = false from rfl, if_neg Bool.false_ne_true]
  refine wpAny_bind (wpAny_pure (wpAny_bind (wpAny_dictEntries hod hdd ?_)))
  rw [if_neg (by simp)]
  refine wpAny_bind (wpAny_pure (wpAny_bind (wpAny_dictEpoch hod hdd ?_)))
  rw [if_neg (by simp)]
  refine wpAny_pure ?_
  simp only [show ¬ ((i : Int) < 0) from by omega, if_false, Int.toNat_natCast, hx]
  refine wpAny_bind (wpAny_bind (wpAny_typeNameOfWhole_itemiter hT (wpAny_pure (wpAny_bind (wpAny_isOneOf_itemiter hT ?_)))))
  show wpAny _ _ (setField (.ref it) 3 (rawInt ((i : Int) + 1)) >>= _) _ _ s
  refine wpAny_bind (wpAny_setField_rec hit (by simp) fun h1 q1 sb1 => ?_)
  have e1 : IsItemIter h1 it d (i + 1) es.size ep ok ov := by
    show h1.get? it = _
    rw [show ((i + 1 : Nat) : Int) = (i : Int) + 1 from by omega]; simpa [rawInt] using q1
  have sb1 : Heap.SameBut it s.heap h1 := sb1
  have hT1 : Shared.TypeIs { s with heap := h1 } (.ref it) "dict_itemiterator" := ⟨_, e1, rfl⟩
  refine wpAny_bind (wpAny_holding (wpAny_bind (wpAny_isOneOf_itemiter hT1 (wpAny_bind (wpAny_isOneOf_itemiter hT1 ?_)))))
  show wpAny _ _ (Builtin.Dict_items.pairFromOwner (.ref it) 6 e.key e.val) _ _ { s with heap := h1 }
  unfold Builtin.Dict_items.pairFromOwner Builtin.Dict_items.ownedTupleIsFree
  refine wpAny_bind (wpAny_newTuple ?_); have e2 : IsItemIter (h1.push { cls := .type "tuple", data := .seq #[e.key, e.val] }) it d (i + 1) es.size ep ok ov := Heap.get?_push_of_some _ e1
  have z1 : h1.objs.size = s.heap.objs.size := sb1.1
  have t2 : (h1.push { cls := .type "tuple", data := .seq #[e.key, e.val] }).get? s.heap.objs.size = some { cls := .type "tuple", data := .seq #[e.key, e.val] } := by rw [← z1]; exact Heap.get?_push_size _ rfl
  have z2 : (h1.push { cls := .type "tuple", data := .seq #[e.key, e.val] }).objs.size = s.heap.objs.size + 1 := by rw [Heap.size_push, z1]
  have k2 : ∀ b o, b ≠ it → s.heap.get? b = some o → (h1.push { cls := .type "tuple", data := .seq #[e.key, e.val] }).get? b = some o := fun b o hb x => Heap.get?_push_of_some _ (sb1.extBut b o hb x)
  generalize hh2 : h1.push { cls := .type "tuple", data := .seq #[e.key, e.val] } = h2 at e2 t2 z2 k2
  have ne : s.heap.objs.size ≠ it := Nat.ne_of_gt (Heap.lt_size hit)
  dsimp only
  rw [z1]
  refine wpAny_bind (wpAny_bind (wpAny_field e2 rfl (x := .none) rfl (wpAny_pure ?_)))
  simp only [if_true]
  refine wpAny_bind (wpAny_field e2 rfl (x := ok) rfl (wpAny_bind (wpAny_field e2 rfl (x := ov) rfl ?_)))
  refine wpAny_bind (wpAny_setField_rec e2 (by simp) fun h3 q3 sb3 => ?_)
  have e3 : IsItemIter h3 it d (i + 1) es.size ep e.key ov := q3
  refine wpAny_bind (wpAny_setField_rec e3 (by simp) fun h4 q4 sb4 => ?_)
  have e4 : IsItemIter h4 it d (i + 1) es.size ep e.key e.val := q4
  refine wpAny_bind (wpAny_setField_rec e4 (by simp) fun h5 q5 sb5 => ?_)
  have e5 : IsItemIterOut h5 it d (i + 1) es.size ep e.key e.val s.heap.objs.size := q5
  refine wpAny_bind (wpAny_setField_rec e5 (by simp) fun h6 q6 sb6 => ?_)
  have all : Heap.SameBut it h2 h6 := ((sb3.trans sb4).trans sb5).trans sb6
  refine wpAny_bind (wpAny_letGo (wpAny_pure (wpAny_pure ⟨_, rfl, wpAny_pure (hQ h6 q6 (all.extBut _ _ ne t2) ?_ fun b o hb x => all.extBut b o hb (k2 b o hb x))⟩)))
  exact all.1.trans z2
theorem end_items {it d : Addr} {i ep : Nat} {es : Array DictEntry} {ok ov : Value} {Q : Option Value → Shared → Prop} (hh : A.handled = none) (hit : IsItemIter s.heap it d i es.size ep ok ov) (hm : RawD s.heap d es ep) (hx : es.size ≤ i) (hQ : ∀ h', Heap.ExtBut it s.heap h' → Q none { s with heap := h' }) : wpAny (model prog w) A (pyNext (.ref it)) Q E s := by
  have hT : s.TypeIs (.ref it) "dict_itemiterator" := ⟨_, hit, rfl⟩; obtain ⟨od, hod, hcd, hdd⟩ := hm
  unfold pyNext
  refine wpAny_bind (wpAny_attempt (wpAny_callSpecial?_slot (name := Str.ofString "__next__") hT F.slot_dict_itemiterator_next (wpAny_call_entry F.slot_dict_itemiterator_next hT F.entry_dict_itemiterator_next ?_ (F.args_dict_itemiterator_next_1 _))))
  refine wpAny_bind (wpAny_pure (wpAny_bind (wpAny_bind (wpAny_bind (wpAny_typeNameOfWhole_itemiter hT (wpAny_pure (wpAny_bind (wpAny_fieldsOf hit rfl ?_))))))))
  simp only [show Builtin.Dict_items.ownsTuple "dict_itemiterator" = true from by decide, if_true]
  show wpAny _ _ (if (Value.ref d == Value.none) = true then _ else _) _ _ s; rw [show (Value.ref d == Value.none) = false from rfl, if_neg Bool.false_ne_true]
  refine wpAny_bind (wpAny_pure (wpAny_bind (wpAny_dictEntries hod hdd ?_)))
  rw [if_neg (by simp)]
  refine wpAny_bind (wpAny_pure (wpAny_bind (wpAny_dictEpoch hod hdd ?_)))
  rw [if_neg (by simp)]
  refine wpAny_pure ?_
  simp only [show ¬ ((i : Int) < 0) from by omega, if_false, Int.toNat_natCast, Array.getElem?_eq_none hx]
  refine wpAny_bind (wpAny_bind (wpAny_typeNameOfWhole_itemiter hT (wpAny_pure ?_)))
  show wpAny _ _ (setField (.ref it) 2 .none >>= _) _ _ s; refine wpAny_bind (wpAny_setField hit rfl (by simp) ?_)
  show wpAny _ _ (newExc (.type "StopIteration") [] >>= _) _ _ _; refine wpAny_bind ?_
  simp only [newExc, newTuple]; refine wpAny_bind (wpAny_newObj_type ?_ (by size_fits))
  refine wpAny_bind (m := firstArgMember _ _) (wpAny_of_eq (a := Value.none) (by first | rfl | (simp only [firstArgMember]; rfl)) (wpAny_newObj_type ?_ (by size_fits)))
  simp only [raiseNew]; refine wpAny_bind (wpAny_handled ?_); rw [show A.in1.handled = none from hh]
  refine wpAny_bind (wpAny_pure (wpAny_throw ?_)); refine wpAny_bind (wpAny_isInstance (b := true) (T := "StopIteration") ⟨_, Heap.get?_push_size _ rfl, rfl⟩ isSubtype_stop (wpAny_pure ?_))
  exact hQ _ (((Heap.SameBut.update ..).extBut.push _).push _)
theorem iter_vals {v d : Addr} {es : Array DictEntry} {ep : Nat} {Q : Value → Shared → Prop} (hv : s.heap.IsValuesView v d) (hm : RawD s.heap d es ep)
    (hQ : Q (.ref s.heap.objs.size) { s with heap := s.heap.push { cls := .type "dict_valueiterator", data := .fields #[.ref d, .int 0 0, .int es.size 0, .int ep 0] } }) : wpAny (model prog w) A (pyIter (.ref v)) Q E s := by
  have hT := hv.typeIs
  obtain ⟨ov, hov, hcv, hdv⟩ := hv
  obtain ⟨o, ho, hc, hdat⟩ := hm
  refine wpAny_pyIter_slot hT F.slot_dict_values_iter (wpAny_call_entry F.slot_dict_values_iter hT F.entry_dict_values_iter ?_ (F.args_dict_values_iter_1 _))
  unfold Builtin.«dict_values.__iter__» Builtin.Dict_items.dictOf
  refine wpAny_bind (wpAny_pure (wpAny_bind (wpAny_bind (wpAny_field hov hdv (x := .ref d) rfl (wpAny_pure (wpAny_bind ?_))))))
  unfold Builtin.Dict_items.newIterator; refine wpAny_bind (wpAny_dictEntries ho hdat (wpAny_bind (wpAny_dictEpoch ho hdat ?_)))
  simp only [show Builtin.Dict_items.ownsTuple "dict_valueiterator" = false from by decide, Bool.false_eq_true, if_false]
  exact wpAny_newObj_type (wpAny_pure ⟨_, rfl, "dict_valueiterator", _, ⟨_, Heap.get?_push_size _ rfl, rfl⟩, F.slot_dict_valueiterator_next.lookup, hQ⟩)
end
end LS
set_option maxRecDepth 100000
set_option maxHeartbeats 1600000
namespace L2
open PySem PySem.Spec PyProof.Rows LS
def held (d : Addr) (o : Obj) : HO := .ext fun h => h.get? d = some o
def viewO (n : String) (a d : Addr) : HO := .ext fun h => ∃ o, h.get? a = some o ∧ o.cls = .type n ∧ o.data = .fields #[.ref d]
structure DIs (P : Program) (w : World) (d : Addr) (o : Obj) (kvs : List (List Key × V)) (xs : List (List Key × Addr × Value)) (es : Array DictEntry) (ep : Nat) : Prop where
  len : kvs.length ≤ sizeLine
  sys : (d == sysModules) = false
  ex : o.ExactDict
  data : o.data = .dict es ep
  es : es.toList = xs.map (entryOfKey (tupleKind (mixKind P w)))
  nd : (xs.map (·.1)).Nodup
theorem held_ok {P : Program} {w : World} {H : Hp} {h : Heap} {d : Addr} {o : Obj} (e : h.get? d = some o) : ObjOk P w H h d (held d o) := ⟨e, ⟨o, e⟩, fun h1 h2 q k => k _ q⟩
theorem held_is {P : Program} {w : World} {H : Hp} {h : Heap} {d : Addr} {o : Obj} (ok : HOk P w H h) (e : H d = some (held d o)) : h.get? d = some o := (ok d _ e).1
section
variable {X : Cx} {pins : List (Addr × Obj)} {σ : St} {H : Hp} {s : Shared}
theorem hold_in {d : Addr} {kvs : List (List Key × V)} (I : Inv X pins σ H s) (e : H d = some (.dT kvs)) : ∃ o xs es ep, DIs X.prog X.w d o kvs xs es ep ∧ KT H kvs xs ∧ Inv X pins σ (upd H d (held d o)) s := by
  obtain ⟨z1, z2, xs, rel, o, es, ep, h1, h2, h3, h4, h5⟩ := (show ObjOk X.prog X.w H s.heap d (.dT kvs) from I.hok d _ e)
  refine ⟨o, xs, es, ep, ⟨z1, z2, h2, h3, h4, h5⟩, rel, ?_⟩
  have := I.write (x := d) (e := d) (o := held d o) (t' := s.toks) (h' := s.heap) (by rw [e]; trivial) (.inl rfl) (fun b u _ q => q) ⟨o, h1⟩ (held_ok h1)
  exact this
theorem hold_out {d : Addr} {o : Obj} {kvs : List (List Key × V)} {xs : List (List Key × Addr × Value)} {es : Array DictEntry} {ep : Nat} (I : Inv X pins σ H s) (e : H d = some (held d o)) (D : DIs X.prog X.w d o kvs xs es ep) (k : KT H kvs xs) :
    Inv X pins σ (upd H d (.dT kvs)) s := by
  have h1 := held_is I.hok e
  refine I.write (x := d) (e := d) (t' := s.toks) (h' := s.heap) (by rw [e]; trivial) (.inl rfl) (fun b u _ q => q) ⟨o, h1⟩ ?_
  refine ⟨D.len, D.sys, xs, k.keeps fun b ys q => ?_, o, es, ep, h1, D.ex, D.data, D.es, D.nd⟩
  rw [upd_ne]
  · exact q
  · rintro rfl; rw [e] at q; cases q
def tHold (P : Program) (w : World) (t : TE) : TE := fun σ H Q => ∃ d kvs, H d = some (.dT kvs) ∧ ∀ o xs es ep, DIs P w d o kvs xs es ep → KT H kvs xs → t σ (upd H d (held d o)) fun v H1 => H1 d = some (held d o) ∧ TSame H H1 ∧ Q v (upd H1 d (.dT kvs))
theorem pe_hold {e : Expr} {t : TE} (h : PE X e t) : PE X e (tHold X.prog X.w t) := by
  intro pins s σ H Q I q
  obtain ⟨d, kvs, hd, q⟩ := q
  obtain ⟨o, xs, es, ep, D, k, I1⟩ := hold_in I hd
  refine thn (h pins s σ _ _ I1 (q o xs es ep D k)) fun u s1 ⟨v, H1, I2, r, e1, ts, q1⟩ => ⟨v, _, hold_out I2 e1 D (k.keeps ts), r, q1⟩
def sHold (P : Program) (w : World) (t : TS) : TS := fun D σ H => ∃ d kvs, H d = some (.dT kvs) ∧ ∀ o xs es ep, DIs P w d o kvs xs es ep → KT H kvs xs →
  t { nx := fun σ1 H1 => H1 d = some (held d o) ∧ TSame H H1 ∧ D.nx σ1 (upd H1 d (.dT kvs)), rt := fun _ _ => False } σ (upd H d (held d o))
theorem ps_hold {e : Stmt} {t : TS} (h : PS X e t) : PS X e (sHold X.prog X.w t) := by
  intro pins s σ H D I q
  obtain ⟨d, kvs, hd, q⟩ := q
  obtain ⟨o, xs, es, ep, Dd, k, I1⟩ := hold_in I hd
  refine thn (h pins s σ _ _ I1 (q o xs es ep Dd k)) fun f s1 sp => ?_
  cases f with
  | next => obtain ⟨σ1, H1, I2, e1, ts, q1⟩ := sp; exact ⟨σ1, _, hold_out I2 e1 Dd (k.keeps ts), q1⟩
  | brk => obtain ⟨σ1, H1, I2, e1⟩ := sp; exact e1.elim
  | cont => obtain ⟨σ1, H1, I2, e1⟩ := sp; exact e1.elim
  | ret u => obtain ⟨v, σ1, H1, I2, r, e1⟩ := sp; exact e1.elim
end
def Itd (d : Addr) (o : Obj) (vs : List V) : It := ⟨fun i H => H d = some (held d o) ∧ i < vs.length, fun i H x H' => H' = H ∧ vs[i]? = some x, fun i H => H d = some (held d o) ∧ vs.length ≤ i⟩
theorem vals_at : ∀ {vs : List V} {us : List Value}, Vals vs us → ∀ {i : Nat} {u : Value}, us[i]? = some u → ∃ v, vs[i]? = some v ∧ RelV v u
  | _, _, .nil, i, u, e => by simp at e
  | _, _, .cons r t, 0, u, e => by simp only [List.getElem?_cons_zero, Option.some.injEq] at e; subst e; exact ⟨_, rfl, r⟩
  | _, _, .cons r t, i + 1, u, e => by simp only [List.getElem?_cons_succ] at e ⊢; exact vals_at t e
theorem turn_key {P : Program} {w : World} {K : PySem.W.Frag} {tg : Expr} {d it : Addr} {o : Obj} {vs : List V} {es : Array DictEntry} {ep : Nat} (hex : o.ExactDict) (hdat : o.data = .dict es ep) (hv : Vals vs (es.toList.map (·.key))) :
    Turn P w K tg (Itd d o vs) [it] it (fun i h => h.IsKeyIter it d i es.size ep) where
  mem := by simp
  obj := fun i h st b hb => by
    obtain rfl : b = it := by simpa using hb
    obtain ⟨o, e, c, d⟩ := st
    exact ⟨o, e, fun v z => by rw [d] at z; cases z⟩
  keep := fun i h h' st k => by
    obtain ⟨o, e, c, d⟩ := st
    exact ⟨o, k it (by simp) o e, c, d⟩
  item := by
    intro X hP hw hK hc i pins s σ H E I hf st hg
    subst hP hw hK
    obtain ⟨hd, hg⟩ := hg
    obtain ⟨f0, f1, f2, f3, f4, f5⟩ := hf it (by simp)
    have hl : vs.length = es.size := by rw [hv.length, List.length_map, Array.length_toList]
    have hi : i < es.size := by omega
    obtain ⟨v, hv1, hv2⟩ := vals_at hv (i := i) (u := es[i].key) (by simp [hi])
    refine next_key st ⟨o, held_is I.hok hd, hex, hdat⟩ (e := es[i]) (by simp [hi]) fun h' st' sb => ?_
    have I1 : Inv X pins σ H { s with heap := h' } := I.turned (t' := s.toks) (fun b o hb e => (sb.2 b hb).trans e) f0 f1 f3 f4 f5
    obtain ⟨o', e1, c, d'⟩ := id st'
    exact ⟨_, rfl, go_of (s := { s with heap := h' }) e1 c d' (by decide) ⟨v, H, I1, hv2, ⟨rfl, hv1⟩, st', fun b hb => (hf b hb).1⟩⟩
  done := by
    intro X hP hw hK hc i pins s σ H E I hf st hg
    subst hP hw hK
    obtain ⟨hd, hg⟩ := hg
    obtain ⟨f0, f1, f2, f3, f4, f5⟩ := hf it (by simp)
    have hl : vs.length = es.size := by rw [hv.length, List.length_map, Array.length_toList]
    exact end_key (I.ok.hd hc) st ⟨o, held_is I.hok hd, hex, hdat⟩ (by omega) fun h' eb => ⟨rfl, I.turned (t' := s.toks) (fun b o hb e => eb b o hb e) f0 f1 f3 f4 f5⟩
  self := fun _ _ _ _ _ st h => wpAny_pyIter_keyiter st h
theorem turn_val {P : Program} {w : World} {K : PySem.W.Frag} {tg : Expr} {d it : Addr} {o : Obj} {vs : List V} {es : Array DictEntry} {ep : Nat} (hex : o.ExactDict) (hdat : o.data = .dict es ep) (hv : Vals vs (es.toList.map (·.val))) :
    Turn P w K tg (Itd d o vs) [it] it (fun i h => h.IsValIter it d i es.size ep) where
  mem := by simp
  obj := fun i h st b hb => by
    obtain rfl : b = it := by simpa using hb
    obtain ⟨o, e, c, d⟩ := st
    exact ⟨o, e, fun v z => by rw [d] at z; cases z⟩
  keep := fun i h h' st k => by
    obtain ⟨o, e, c, d⟩ := st
    exact ⟨o, k it (by simp) o e, c, d⟩
  item := by
    intro X hP hw hK hc i pins s σ H E I hf st hg
    subst hP hw hK
    obtain ⟨hd, hg⟩ := hg
    obtain ⟨f0, f1, f2, f3, f4, f5⟩ := hf it (by simp)
    have hl : vs.length = es.size := by rw [hv.length, List.length_map, Array.length_toList]
    have hi : i < es.size := by omega
    obtain ⟨v, hv1, hv2⟩ := vals_at hv (i := i) (u := es[i].val) (by simp [hi])
    refine next_val st ⟨o, held_is I.hok hd, hex, hdat⟩ (e := es[i]) (by simp [hi]) fun h' st' sb => ?_
    have I1 : Inv X pins σ H { s with heap := h' } := I.turned (t' := s.toks) (fun b o hb e => (sb.2 b hb).trans e) f0 f1 f3 f4 f5
    obtain ⟨o', e1, c, d'⟩ := id st'
    exact ⟨_, rfl, go_of (s := { s with heap := h' }) e1 c d' (by decide) ⟨v, H, I1, hv2, ⟨rfl, hv1⟩, st', fun b hb => (hf b hb).1⟩⟩
  done := by
    intro X hP hw hK hc i pins s σ H E I hf st hg
    subst hP hw hK
    obtain ⟨hd, hg⟩ := hg
    obtain ⟨f0, f1, f2, f3, f4, f5⟩ := hf it (by simp)
    have hl : vs.length = es.size := by rw [hv.length, List.length_map, Array.length_toList]
    exact end_val (I.ok.hd hc) st ⟨o, held_is I.hok hd, hex, hdat⟩ (by omega) fun h' eb => ⟨rfl, I.turned (t' := s.toks) (fun b o hb e => eb b o hb e) f0 f1 f3 f4 f5⟩
  self := fun _ _ _ _ _ st h => wpAny_pyIter_valiter st h
def iKey (tl : TE) : TI := fun σ H R => tl σ H fun x H1 => ∃ d o vs es ep, x = .ref d ∧ H1 d = some (held d o) ∧ (d == sysModules) = false ∧ o.ExactDict ∧ o.data = .dict es ep ∧ Vals vs (es.toList.map (·.key)) ∧ R (Itd d o vs) H1
theorem pi_key {X : Cx} {tg l : Expr} {tl : TE} (hl : PE X l tl) : PI X tg l (iKey tl) := by
  intro pins s σ H R I h
  refine thn (hl pins s σ H _ I h) fun v s1 ⟨y, H1, I1, r1, q1⟩ => ?_
  obtain ⟨d, o, vs, es, ep, rfl, hd, hs, hex, hdat, hv, q⟩ := q1
  cases r1
  have fp : ∀ b ∈ [s1.heap.objs.size], FpOk X pins H1 b := fun b hb => by
    obtain rfl : b = s1.heap.objs.size := by simpa using hb
    exact I1.fpOk (Nat.le_refl _) (I1.hok.fresh (Nat.le_refl _))
  exact iter_raw hs ⟨o, held_is I1.hok hd, hex, hdat⟩ ⟨s1.heap.objs.size, [s1.heap.objs.size], _, _, H1, rfl, I1.kept (t' := s1.toks) fun b o e => Heap.get?_push_of_some _ e, turn_key hex hdat hv, ⟨_, Heap.get?_push_size _ rfl, rfl, rfl⟩, fp, q⟩
def iVal (tl : TE) : TI := fun σ H R => tl σ H fun x H1 => ∃ p d o vs es ep, x = .ref p ∧ H1 p = some (viewO "dict_values" p d) ∧ H1 d = some (held d o) ∧ o.ExactDict ∧ o.data = .dict es ep ∧ Vals vs (es.toList.map (·.val)) ∧ R (Itd d o vs) H1
theorem pi_val {X : Cx} {tg l : Expr} {tl : TE} (hl : PE X l tl) : PI X tg l (iVal tl) := by
  intro pins s σ H R I h
  refine thn (hl pins s σ H _ I h) fun v s1 ⟨y, H1, I1, r1, q1⟩ => ?_
  obtain ⟨p, d, o, vs, es, ep, rfl, hp, hd, hex, hdat, hv, q⟩ := q1
  cases r1
  have fp : ∀ b ∈ [s1.heap.objs.size], FpOk X pins H1 b := fun b hb => by
    obtain rfl : b = s1.heap.objs.size := by simpa using hb
    exact I1.fpOk (Nat.le_refl _) (I1.hok.fresh (Nat.le_refl _))
  have hvw : s1.heap.IsValuesView p d := (I1.hok p _ hp).1
  exact iter_vals hvw ⟨o, held_is I1.hok hd, hex, hdat⟩ ⟨s1.heap.objs.size, [s1.heap.objs.size], _, _, H1, rfl, I1.kept (t' := s1.toks) fun b o e => Heap.get?_push_of_some _ e, turn_val hex hdat hv, ⟨_, Heap.get?_push_size _ rfl, rfl, rfl⟩, fp, q⟩
end L2
set_option maxRecDepth 100000
set_option maxHeartbeats 1600000
namespace L2
open PySem PySem.Spec PyProof.Rows LS
section
variable {X : Cx} {o : Expr} {to : TE} {apos cpos : Pos}
def tView (n : String) (to : TE) : TE := fun σ H Q => to σ H fun x H1 => ∃ d o es ep, x = .ref d ∧ H1 d = some (held d o) ∧ (d == sysModules) = false ∧ o.ExactDict ∧ o.data = .dict es ep ∧ ∀ p, H1 p = none → Q (.ref p) (upd H1 p (viewO n p d))
theorem view_laid {pins : List (Addr × Obj)} {σ : St} {H : Hp} {s : Shared} {d : Addr} {n : String} (I : Inv X pins σ H s) : Inv X pins σ (upd H s.heap.objs.size (viewO n s.heap.objs.size d)) { s with heap := s.heap.push { cls := .type n, data := .fields #[.ref d] } } :=
  I.laid (t' := s.toks) (fun b u e => Heap.get?_push_of_some _ e) (Nat.le_refl _) ⟨⟨_, Heap.get?_push_size _ rfl, rfl, rfl⟩, ⟨_, Heap.get?_push_size _ rfl⟩, fun h1 h2 ⟨o, q1, q⟩ k => ⟨o, k _ q1, q⟩⟩
theorem pe_values (ho : PE X o to) (hbase : attributeBase o "values" X.env (eval o X.env) = eval o X.env := by rfl) (hline : (apos.endLine == cpos.line) = true := by rfl) : PE X (.Call (.Attribute o "values" apos) [] [] cpos) (tView "dict_values" to) := by
  intro pins s σ H Q I h
  refine wpAny_Call_method0_late hbase hline (thn (ho pins s σ H _ I h) fun v s1 ⟨x, H1, I1, r1, d, ob, es, ep, e, hd, hs, hex, hdat, q⟩ => ?_)
  subst e
  cases r1
  have h1 := held_is I1.hok hd
  refine ⟨"dict", "dict.values", PySem.F.plainAttrs_dict, PySem.F.slot_dict_values, PySem.F.type_dict_values, ⟨ob, h1, hex.1⟩, fun a z => by cases z; exact ⟨ob, h1, hex.2.1⟩, Calls.callWith_builtin rfl (PySem.evalArgs_none ?_)⟩
  exact vals_raw hs ⟨ob, h1, hex, hdat⟩ ⟨.ref s1.heap.objs.size, _, view_laid I1, rfl, q _ (I1.hok.fresh (Nat.le_refl _))⟩
theorem pe_items (ho : PE X o to) (hbase : attributeBase o "items" X.env (eval o X.env) = eval o X.env := by rfl) (hline : (apos.endLine == cpos.line) = true := by rfl) : PE X (.Call (.Attribute o "items" apos) [] [] cpos) (tView "dict_items" to) := by
  intro pins s σ H Q I h
  refine wpAny_Call_method0_late hbase hline (thn (ho pins s σ H _ I h) fun v s1 ⟨x, H1, I1, r1, d, ob, es, ep, e, hd, hs, hex, hdat, q⟩ => ?_)
  subst e
  cases r1
  have h1 := held_is I1.hok hd
  refine ⟨"dict", "dict.items", PySem.F.plainAttrs_dict, PySem.F.slot_dict_items, PySem.F.type_dict_items, ⟨ob, h1, hex.1⟩, fun a z => by cases z; exact ⟨ob, h1, hex.2.1⟩, Calls.callWith_builtin rfl (PySem.evalArgs_none ?_)⟩
  exact items_raw hs ⟨ob, h1, hex, hdat⟩ ⟨.ref s1.heap.objs.size, _, view_laid I1, rfl, q _ (I1.hok.fresh (Nat.le_refl _))⟩
end
theorem Inv.trackF {X : Cx} {pins : List (Addr × Obj)} {σ : St} {H : Hp} {s : Shared} {a : Addr} {o : HO} (I : Inv X pins σ H s) (f : FpOk X pins H a) (hs : X.s₀.heap.objs.size ≤ a) (new : ObjOk X.prog X.w (upd H a o) s.heap a o) : Inv X pins σ (upd H a o) s := by
  obtain ⟨f0, f1, f2, f3, f4, f5⟩ := f
  have ne : ∀ {b u}, H b = some u → b ≠ a := fun e z => by rw [z, f0] at e; cases e
  refine ⟨I.ok, I.os, I.bare, ⟨I.base.keep, I.base.slot, fun b ob q n hx => ?_, I.base.there, fun b xs q => ?_, fun b ob u q => ?_, fun b ps q => ?_⟩, I.loc, I.cell, ?_, fun x c e => ?_, fun p hp => ?_, fun b u e => ?_, I.len⟩
  · rw [upd_ne (Nat.ne_of_lt (Nat.lt_of_lt_of_le (Heap.lt_size q) hs))]; exact I.base.free b ob q n hx
  · have := I.base.tups b xs q
    rw [upd_ne (ne this)]; exact this
  · have := I.base.frzs b ob u q
    rw [upd_ne (ne this)]; exact this
  · obtain ⟨m, e⟩ := I.base.tbls b ps q
    exact ⟨m, by rw [upd_ne (ne e)]; exact e⟩
  · rw [upd_ne (Ne.symm f1)]; exact I.free
  · rw [upd_ne (f4 x c e)]; exact I.freeC x c e
  · obtain ⟨p1, p2, p3⟩ := I.pin p hp
    exact ⟨p1, by rw [upd_ne (f5 p hp)]; exact p2, p3⟩
  · by_cases hb : b = a
    · subst hb; rw [upd_same] at e; cases e; exact new
    · rw [upd_ne hb] at e
      exact (I.hok b u e).stay (fun c v _ q => q) (fun c q => by rw [upd_ne (ne q)]; exact q) fun c xs q => by rw [upd_ne (ne q)]; exact q
theorem entry_itemiter : entryFor table "dict_itemiterator.__iter__" = some Builtin.«dict_keyiterator.__iter__» := entryFor_alias (id' := "dict_keyiterator.__iter__") (by kernel_rfl) rfl (by decide +kernel) (by kernel_rfl)
def Itp (d : Addr) (o : Obj) (ks vs : List V) : It := ⟨fun i H => H d = some (held d o) ∧ i < ks.length, fun i H x H' => ∃ p k v, x = .ref p ∧ H p = none ∧ ks[i]? = some k ∧ vs[i]? = some v ∧ H' = upd H p (.tup [k, v]), fun i H => H d = some (held d o) ∧ ks.length ≤ i⟩
theorem turn_items {P : Program} {w : World} {K : PySem.W.Frag} {elts : List Expr} {x1} {tpos : Pos} {d it : Addr} {o : Obj} {ks vs : List V} {es : Array DictEntry} {ep : Nat} (hex : o.ExactDict) (hdat : o.data = .dict es ep) (hk : Vals ks (es.toList.map (·.key))) (hv : Vals vs (es.toList.map (·.val))) :
    Turn P w K (.Tuple elts x1 tpos) (Itp d o ks vs) [it] it (fun i h => ∃ ok ov, IsItemIter h it d i es.size ep ok ov) where
  mem := by simp
  obj := fun i h st b hb => by
    obtain rfl : b = it := by simpa using hb
    obtain ⟨ok, ov, e⟩ := st
    exact ⟨_, e, fun v z => by cases z⟩
  keep := fun i h h' st k => by
    obtain ⟨ok, ov, e⟩ := st
    exact ⟨ok, ov, k it (by simp) _ e⟩
  item := by
    intro X hP hw hK hc i pins s σ H E I hf st hg
    subst hP hw hK
    obtain ⟨hd, hg⟩ := hg
    obtain ⟨ok, ov, st⟩ := st
    obtain ⟨f0, f1, f2, f3, f4, f5⟩ := hf it (by simp)
    have hl : ks.length = es.size := by rw [hk.length, List.length_map, Array.length_toList]
    have hi : i < es.size := by omega
    obtain ⟨k, hk1, hk2⟩ := vals_at hk (i := i) (u := es[i].key) (by simp [hi])
    obtain ⟨v, hv1, hv2⟩ := vals_at hv (i := i) (u := es[i].val) (by simp [hi])
    refine next_items st ⟨o, held_is I.hok hd, hex, hdat⟩ (e := es[i]) (by simp [hi]) fun h' st' ht hz kp => ?_
    refine ⟨_, rfl, wpAny_letOwnedTupleGo_items (s := { s with heap := h' }) st' fun h2 st2 sb2 => ?_⟩
    have sb2 : Heap.SameBut it h' h2 := sb2
    have nit : s.heap.objs.size ≠ it := Nat.ne_of_gt (Heap.lt_size st)
    have I1 : Inv X pins σ H { s with heap := h2 } := I.turned (t' := s.toks) (fun b o hb e => (sb2.2 b hb).trans (kp b o hb e)) f0 f1 f3 f4 f5
    have ht2 : h2.get? s.heap.objs.size = some { cls := .type "tuple", data := .seq #[es[i].key, es[i].val] } := (sb2.2 _ nit).trans ht
    have hn : H s.heap.objs.size = none := I.hok.fresh (Nat.le_refl _)
    refine ⟨.ref s.heap.objs.size, upd H s.heap.objs.size (.tup [k, v]), ?_, rfl, ⟨_, k, v, rfl, hn, hk1, hv1, rfl⟩, ⟨_, _, st2⟩, fun b hb => ?_⟩
    · obtain ⟨g0, g1, g2, g3, g4, g5⟩ := I.fpOk (Nat.le_refl _) hn
      refine I1.trackF ⟨g0, g1, g2, g3, g4, g5⟩ (Nat.le_trans I.sz (Nat.le_refl _)) ⟨by show 2 ≤ sizeLine; decide, [es[i].key, es[i].val], .cons hk2 (.cons hv2 .nil), _, ht2, rfl, _, rfl⟩
    · obtain rfl : b = it := by simpa using hb
      rw [upd_ne (Ne.symm nit)]; exact f0
  done := by
    intro X hP hw hK hc i pins s σ H E I hf st hg
    subst hP hw hK
    obtain ⟨hd, hg⟩ := hg
    obtain ⟨ok, ov, st⟩ := st
    obtain ⟨f0, f1, f2, f3, f4, f5⟩ := hf it (by simp)
    have hl : ks.length = es.size := by rw [hk.length, List.length_map, Array.length_toList]
    exact end_items (I.ok.hd hc) st ⟨o, held_is I.hok hd, hex, hdat⟩ (by omega) fun h' eb => ⟨rfl, I.turned (t' := s.toks) (fun b o hb e => eb b o hb e) f0 f1 f3 f4 f5⟩
  self := fun _ _ _ _ _ st h => by
    obtain ⟨ok, ov, st⟩ := st
    have hT : Shared.TypeIs _ (.ref it) "dict_itemiterator" := ⟨_, st, rfl⟩
    refine wpAny_pyIter_slot hT F.slot_dict_itemiterator_iter (wpAny_call_entry F.slot_dict_itemiterator_iter hT entry_itemiter ?_ (F.args_dict_itemiterator_iter_1 _))
    show wpAny _ _ (ret (.ref it)) _ _ _; exact wpAny_pure ⟨_, rfl, "dict_itemiterator", _, hT, F.slot_dict_itemiterator_next.lookup, h⟩
def iItems (tl : TE) : TI := fun σ H R => tl σ H fun x H1 => ∃ p d o ks vs es ep, x = .ref p ∧ H1 p = some (viewO "dict_items" p d) ∧ H1 d = some (held d o) ∧ o.ExactDict ∧ o.data = .dict es ep ∧ Vals ks (es.toList.map (·.key)) ∧ Vals vs (es.toList.map (·.val)) ∧ R (Itp d o ks vs) H1
theorem pi_items {X : Cx} {elts : List Expr} {x1} {tpos : Pos} {l : Expr} {tl : TE} (hl : PE X l tl) : PI X (.Tuple elts x1 tpos) l (iItems tl) := by
  intro pins s σ H R I h
  refine thn (hl pins s σ H _ I h) fun v s1 ⟨y, H1, I1, r1, q1⟩ => ?_
  obtain ⟨p, d, o, ks, vs, es, ep, rfl, hp, hd, hex, hdat, hk, hv, q⟩ := q1
  cases r1
  have fp : ∀ b ∈ [s1.heap.objs.size], FpOk X pins H1 b := fun b hb => by
    obtain rfl : b = s1.heap.objs.size := by simpa using hb
    exact I1.fpOk (Nat.le_refl _) (I1.hok.fresh (Nat.le_refl _))
  have hvw : s1.heap.IsItemsView p d := (I1.hok p _ hp).1
  exact iter_items hvw ⟨o, held_is I1.hok hd, hex, hdat⟩ ⟨s1.heap.objs.size, [s1.heap.objs.size], _, _, H1, rfl, I1.kept (t' := s1.toks) fun b o e => Heap.get?_push_of_some _ e, turn_items hex hdat hk hv, ⟨.none, .none, Heap.get?_push_size _ rfl⟩, fp, q⟩
theorem keys_vals {P : Program} {w : World} {d : Addr} {o : Obj} {kvs : List (List Key × V)} {xs : List (List Key × Addr × Value)} {es : Array DictEntry} {ep : Nat} (D : DIs P w d o kvs xs es ep) : Vals (xs.map fun x => V.ref x.2.1) (es.toList.map (·.key)) := by
  rw [D.es, List.map_map]
  clear D
  induction xs with
  | nil => exact .nil
  | cons x xs ih => exact .cons rfl ih
theorem vals_vals {P : Program} {w : World} {H : Hp} {d : Addr} {o : Obj} {kvs : List (List Key × V)} {xs : List (List Key × Addr × Value)} {es : Array DictEntry} {ep : Nat} (D : DIs P w d o kvs xs es ep) (k : KT H kvs xs) : Vals (kvs.map (·.2)) (es.toList.map (·.val)) := by
  rw [D.es, List.map_map]
  clear D
  induction k with
  | nil => exact .nil
  | cons hq t ih => exact .cons hq.2.2 ih
theorem comp_dict {d D : Addr} {o : Obj} {vs : List V} {g : TG} {te : TE} {σ0 : St} {H1 : Hp} {Q : Hp → Prop} (R : V → V → Hp → Prop) (ok : St → Prop) (mono : ∀ H H' x v, TSame H H' → R x v H → R x v H')
    (hd0 : H1 d = some (held d o)) (hD : H1 D = none) (hz : vs.length ≤ 1000) (h0 : ok σ0)
    (hs : ∀ x σ' H (N : St → V → Hp → Prop), x ∈ vs → ok σ' → Same H1 H → (∀ σ3 v H4, R x v H4 → Same H H4 → ok σ3 → N σ3 v H4) → g x σ' H fun σ3 H3 => te σ3 H3 fun v H4 => N σ3 v H4)
    (hd : ∀ ys H', Same H1 H' → H' D = some (.lst ys) → Paired (fun x v => R x v H') vs ys → Q H') :
    ∃ W : Nat → Nat → St → Hp → Prop, (∃ m, W 0 m σ0 (upd H1 D (.lst []))) ∧
      ∀ i m σ' H', W i m σ' H' → ((Itd d o vs).stop i H' ∧ Q H') ∨ ((Itd d o vs).go i H' ∧ ∀ x H2, (Itd d o vs).yld i H' x H2 → g x σ' H2 fun σ3 H3 => te σ3 H3 fun v H4 => ∃ xs, H4 D = some (.lst xs) ∧ xs.length < sizeLine ∧ ∃ m', m' < m ∧ W (i + 1) m' σ3 (upd H4 D (.lst (xs ++ [v])))) := by
  refine ⟨fun i m σ' H' => m = vs.length - i ∧ i ≤ vs.length ∧ ok σ' ∧ Same H1 H' ∧ ∃ ys, H' D = some (.lst ys) ∧ Paired (fun x v => R x v H') (vs.take i) ys, ⟨vs.length, by simp, Nat.zero_le _, h0, Same.new hD, [], upd_same, by rw [List.take_zero]; exact .nil⟩, ?_⟩
  rintro i m σ' H' ⟨rfl, hi, hok, hsm, ys, hy, hp⟩
  have hyl : ys.length = i := by rw [← Paired.length hp, List.length_take, Nat.min_eq_left hi]
  by_cases hlt : i < vs.length
  · refine .inr ⟨⟨hsm _ _ hd0, hlt⟩, fun x H2 y => ?_⟩
    obtain ⟨e, hx⟩ := y
    subst e
    refine hs x σ' _ (fun σ3 v H4 => ∃ xs', H4 D = some (.lst xs') ∧ xs'.length < sizeLine ∧ ∃ m', m' < vs.length - i ∧ _) (List.mem_of_getElem? hx) hok hsm fun σ3 v H4 r s4 ok3 => ?_
    have tD : TSame H4 (upd H4 D (.lst (ys ++ [v]))) := fun b zs e => by
      rw [upd_ne (ne_of e (s4 _ _ hy) (by intro z; cases z))]; exact e
    refine ⟨ys, s4 _ _ hy, Nat.lt_of_lt_of_le (show ys.length < 1001 by omega) (by decide), vs.length - (i + 1), by omega, rfl, hlt, ok3, (hsm.trans s4).upd hD, ys ++ [v], upd_same, ?_⟩
    rw [show vs.take (i + 1) = vs.take i ++ [x] by rw [List.take_add_one, hx]; rfl]
    exact Paired.snoc (Paired.mapP hp fun b w q => mono _ _ _ _ (s4.tup.trans tD) q) (mono _ _ _ _ tD r)
  · have e : i = vs.length := by omega
    subst e
    refine .inl ⟨⟨hsm _ _ hd0, Nat.le_refl _⟩, hd ys H' hsm hy (by rw [List.take_length] at hp; exact hp)⟩
end L2
set_option maxRecDepth 100000
set_option maxHeartbeats 1600000
namespace L2
open PySem PySem.Spec PyProof.Rows LS
section
variable {X : Cx} {tg iter elt tst : Expr} {scope : Scope} {N : List Str} {js : List (Option Nat)} {pos : Pos}
theorem compLoop_if {prog : Program} {w : World} {A : Around} {R : Result → Shared → Prop} {s : Shared} {it acc : Value} {env : Env} (I : Nat → Shared → Prop)
    (turn : ∀ n s, I n s → wpAny (model prog w) A (pyNext it) (fun r s1 => match r with
      | none => R (.ok .next) s1
      | some v => wpAny (model prog w) A (letOwnedTupleGo tg it v) (fun _ s2 => wpAny (model prog w) A (assign tg env v) (fun _ s3 => wpAny (model prog w) A (isTrue tst env (eval tst env)) (fun b s4 => if b = true then
          wpAny (model prog w) A (eval elt env) (fun x s5 => wpAny (model prog w) A (call (.builtin "list.append") [acc, x]) (fun _ s6 => ∃ m, m < n ∧ I m s6) (fun _ _ => False) s5) (fun _ _ => False) s4
          else ∃ m, m < n ∧ I m s4) (fun _ _ => False) s3) (fun _ _ => False) s2) (fun _ _ => False) s1) (fun _ _ => False) s)
    (n : Nat) (h : I n s) : codeAny (model prog w) A (.compLoop (.ListComp elt [⟨tg, iter, [tst], 0⟩] scope pos) 0 it acc env) R s := by
  refine codeAny_loop rfl I (fun n s hI => ?_) n h; show wpAny _ A ((compTurn (.ListComp elt [⟨tg, iter, [tst], 0⟩] scope pos) 0 it acc env).onRaise (fun x => do noteFrame x env; theTreesLotGoes x)) _ _ s
  refine wpAny_noted ?_
  rw [compTurn_list]
  refine wpAny_bind (wpAny_standAt (wpAny_bind (wpAny_mono (turn n s hI) (fun r s1 h1 => ?_) fun _ _ h' => h'.elim)))
  cases r with
  | none => exact wpAny_pure h1
  | some v =>
    refine wpAny_bind (wpAny_mono h1 (fun _ s2 h2 => wpAny_bind (wpAny_mono h2 (fun _ s3 h3 => wpAny_bind (wpAny_tests_one (wpAny_mono h3 (fun b s4 h4 => ?_) fun _ _ h' => h'.elim))) fun _ _ h' => h'.elim)) fun _ _ h' => h'.elim)
    cases b with
    | false => exact wpAny_pure ⟨rfl, by simpa using h4⟩
    | true =>
      have h4 := by simpa using h4
      exact wpAny_bind (wpAny_bind (wpAny_mono h4 (fun x s5 h5 => wpAny_bind (wpAny_mono h5 (fun _ s6 h6 => wpAny_pure (wpAny_pure ⟨rfl, h6⟩)) fun _ _ h' => h'.elim)) fun _ _ h' => h'.elim))
def tCompIf (js : List (Option Nat)) (wi : TI) (g : TG) (tt : TT) (te : TE) : TE := fun σ H Q => wi σ H fun J H1 => ∀ D, H1 D = none → ∃ W : Nat → Nat → St → Hp → Prop, (∃ m, W 0 m (seen js σ) (upd H1 D (.lst []))) ∧
  ∀ i m σ' H', W i m σ' H' → (J.stop i H' ∧ Q (.ref D) H') ∨ (J.go i H' ∧ ∀ x H2, J.yld i H' x H2 → g x σ' H2 fun σ3 H3 => tt σ3 H3 fun b H4 => if b = true then te σ3 H4 fun v H5 => ∃ xs, H5 D = some (.lst xs) ∧ xs.length < sizeLine ∧ ∃ m', m' < m ∧ W (i + 1) m' σ3 (upd H5 D (.lst (xs ++ [v]))) else ∃ m', m' < m ∧ W (i + 1) m' σ3 H4)
theorem compIf_core {wi : TI} {g : TG} {tt : TT} {te : TE} {use : Option (Value → Sem Unit)} {Qv : Value → Shared → Prop} (hc : X.calm = true) (hi : PI X tg iter wi) (hk : scope.kind = .function) (hck : compChk X scope N js = true)
    (hg : ∀ fp s H, PG (cxComp X scope N fp s H) tg g) (ht : ∀ fp s H, PT (cxComp X scope N fp s H) tst tt) (he : ∀ fp s H, PE (cxComp X scope N fp s H) elt te)
    (hs : ∀ x, foldedSetIterable iter X.env x = pure x)
    {pins : List (Addr × Obj)} {σ : St} {H : Hp} {s : Shared} {Q : VK} (I : Inv X pins σ H s) (h : tCompIf js wi g tt te σ H Q)
    (hend : ∀ (D C : Addr) (H' : Hp) (s' : Shared), Inv X pins σ H' s' → (∃ m, s'.heap.Ns C m) → FpOk X pins H' C → Q (.ref D) H' → compPost (model X.prog X.w) X.A X.xe use Qv (.ref D) C (.ok .next) s') :
    wpAny (model X.prog X.w) X.A (comprehension (.ListComp elt [⟨tg, iter, [tst], 0⟩] scope pos) scope X.env (firstIterPos [⟨tg, iter, [tst], 0⟩] pos) (newList []) false (eval iter X.env) use) Qv X.xe s := by
  have hck' := hck
  unfold compChk at hck'
  simp only [Bool.and_eq_true] at hck'
  obtain ⟨⟨h1, _⟩, _⟩ := hck'
  have g1 : ∀ p ∈ scope.names, p.2 ≠ .cell ∧ (p.2 = .free → X.env.kindOf p.1 = some .cell) ∧ (p.2 = .local → scope.names.lookup p.1 = some .local) := fun p hp => by
    have q := List.all_eq_true.mp h1 p hp
    simp only [Bool.and_eq_true, bne_iff_ne, ne_eq, Bool.or_eq_true, beq_iff_eq] at q
    exact ⟨q.1.1, fun e => q.1.2.resolve_left fun z => z e, fun e => q.2.resolve_left fun z => z e⟩
  have hcl : ∀ p ∈ scope.names, p.2 = .free → ∃ c, X.env.cells.lookup p.1 = some c := fun p hp e => I.ok.has _ (.inl ((g1 p hp).2.1 e))
  refine wpAny_comprehension_free (use := use) (g := ⟨tg, iter, [tst], 0⟩) (gs := []) rfl hs (closureFor_G hcl) hk (fun p hp e => (g1 p hp).2.2 e) ?_
  refine thn (hi pins s σ H _ I h) fun v s1 h1 => thn h1 fun itv s2 h2 => ?_
  obtain ⟨it, fp, tn, J, H2, e, I2, T, st2, f2, hW⟩ := h2
  subst e
  have hfl : ∀ b ∈ fp, b < s2.heap.objs.size := fun b hb => by
    obtain ⟨o, ho, _⟩ := T.obj _ _ st2 b hb
    exact Heap.lt_size ho
  have hD : H2 s2.heap.objs.size = none := I2.hok.fresh (Nat.le_refl _)
  obtain ⟨W, ⟨m0, w0⟩, turn⟩ := hW _ hD
  refine wpAny_newObj_type (wpAny_newFunctionEnv (fun x hx => (g1 x hx).1) (by intro y hy; simp at hy) (fun h₁ hns₁ hsb₁ => ?_) hk)
  dsimp only at hns₁ hsb₁ ⊢
  have I3 : Inv X pins σ (upd H2 s2.heap.objs.size (.lst [])) { s2 with heap := s2.heap.push { cls := .type "list", dict := none, data := .seq ([] : List Value).toArray }, toks := s2.toks } :=
    I2.laid (t' := s2.toks) (fun b u e => Heap.get?_push_of_some _ e) (Nat.le_refl _) ⟨Nat.zero_le _, [], 0, .nil, Heap.get?_push_size _ rfl⟩
  generalize hs3 : ({ s2 with heap := s2.heap.push { cls := .type "list", dict := none, data := .seq ([] : List Value).toArray }, toks := s2.toks } : Shared) = s3 at I3
  have hh3 : s3.heap = s2.heap.push { cls := .type "list", dict := none, data := .seq ([] : List Value).toArray } := by rw [← hs3]
  have e3 : ({ s2 with heap := h₁, toks := s2.toks + ([] : List (Str × Value)).length } : Shared) = { s3 with heap := h₁, toks := s3.toks } := by rw [← hs3]; rfl
  rw [e3]
  rw [← hh3] at hns₁ hsb₁ ⊢
  generalize hH3 : upd H2 s2.heap.objs.size (.lst []) = H3 at I3 w0
  generalize hDs : s2.heap.objs.size = D at *
  have f3 : ∀ b ∈ fp, FpOk X pins H3 b := fun b hb => by
    refine ⟨?_, (f2 b hb).2⟩
    rw [← hH3, upd_ne (Nat.ne_of_lt (hfl b hb))]
    exact (f2 b hb).1
  have szD : s3.heap.objs.size = D + 1 := by rw [hh3, Heap.size_push]; rw [← hDs]
  have hfl3 : ∀ b ∈ fp, b < s3.heap.objs.size := fun b hb => Nat.lt_of_lt_of_le (hfl b hb) (by rw [szD]; exact Nat.le_succ _)
  have kp : ∀ b o, s3.heap.get? b = some o → h₁.get? b = some o := fun b o e => by
    rw [hsb₁.2 b (Nat.ne_of_lt (Heap.lt_size e))]
    exact Heap.get?_push_of_some _ e
  have st3 : tn 0 h₁ := T.keep 0 _ _ st2 fun b hb o e => kp b o (by rw [hh3]; exact Heap.get?_push_of_some _ e)
  have J0 : Inv (cxComp X scope N fp s3 H3) [] (seen js σ) H3 { s3 with heap := h₁, toks := s3.toks } := comp_start I3 hk hck f3 hfl3 hns₁ kp
  have fpc : ∀ {H' : Hp}, (∀ b ∈ fp, H' b = none) → ∀ b ∈ fp, FpOk (cxComp X scope N fp s3 H3) [] H' b := fun hn b hb =>
    ⟨hn b hb, (J0.ok.exf b hb).1, J0.ok.exfs b hb, .inl hb, (J0.ok.exf b hb).2, fun p hp => by cases hp⟩
  have lp : codeAny (model X.prog X.w) X.A (.compLoop (.ListComp elt [⟨tg, iter, [tst], 0⟩] scope pos) 0 (.ref it) (.ref D) (compEnvC scope (closG X.env scope.names []) s3.heap.objs.size X.env))
      (compPost (model X.prog X.w) X.A X.xe use Qv (.ref D) s3.heap.objs.size) { s3 with heap := h₁, toks := s3.toks } := by
    refine compLoop_if (fun n s' => ∃ i σ' H', Inv (cxComp X scope N fp s3 H3) [] σ' H' s' ∧ tn i s'.heap ∧ (∀ b ∈ fp, H' b = none) ∧ W i n σ' H') ?_ m0 ⟨0, _, H3, J0, st3, fun b hb => (f3 b hb).1, w0⟩
    rintro n s4 ⟨i, σ4, H4, I4, st4, fr4, w4⟩
    rcases turn i n σ4 H4 w4 with ⟨stop, qn⟩ | ⟨go, step⟩
    · refine thn (T.done (cxComp X scope N fp s3 H3) rfl rfl rfl hc i [] s4 σ4 H4 (fun _ _ => False) I4 (fpc fr4) st4 stop) fun r s5 ⟨hr, I5⟩ => ?_
      subst hr
      have I6 : Inv X pins σ H4 s5 := I3.call' (ch := fp) I5.os I5.base I5.hok I5.bare fun b hb => ⟨(f3 b hb).2.2.2.1, (f3 b hb).2.1, (f3 b hb).2.2.2.2.1, (f3 b hb).2.2.2.2.2⟩
      have fC : FpOk X pins H4 s3.heap.objs.size := I3.fpOk (Nat.le_refl _) I5.free
      obtain ⟨m, hn, _⟩ := I5.loc
      exact hend D s3.heap.objs.size H4 s5 I6 ⟨m, hn⟩ fC qn
    · refine thn (T.item (cxComp X scope N fp s3 H3) rfl rfl rfl hc i [] s4 σ4 H4 (fun _ _ => False) I4 (fpc fr4) st4 go) fun r s5 ⟨u, hr, h5⟩ => ?_
      subst hr
      refine thn h5 fun _ s6 ⟨x, H6, I6, r6, y6, st6, fr6⟩ => ?_
      have I6' := I6.pinned (fpc fr6) (T.obj _ _ st6)
      refine thn (hg fp s3 H3 _ s6 σ4 H6 x u _ I6' r6 (step x H6 y6)) fun _ s7 ⟨σ7, H7, I7, q7⟩ => ?_
      refine thn (ht fp s3 H3 _ s7 σ7 H7 _ I7 q7) fun b s7' ⟨H7', I7', q7'⟩ => ?_
      cases b with
      | false =>
        obtain ⟨m', hm, w8⟩ := (by simpa using q7' : ∃ m', m' < n ∧ W (i + 1) m' σ7 H7')
        simp only [Bool.false_eq_true, if_false]; refine ⟨m', hm, i + 1, σ7, _, I7'.unpinned, T.keep _ _ _ st6 fun b hb o e => (I7'.pin (b, o) (List.mem_append_right _ (List.mem_append_right _ (mem_pinsAt hb e)))).1, fun b hb => ?_, w8⟩
        obtain ⟨o, e, d⟩ := T.obj _ _ st6 b hb
        exact (I7'.pin (b, o) (List.mem_append_right _ (List.mem_append_right _ (mem_pinsAt hb e)))).2.1
      | true =>
      simp only [if_true] at q7' ⊢
      refine thn (he fp s3 H3 _ s7' σ7 H7' _ I7' q7') fun u8 s8 ⟨v8, H8, I8, r8, xs, e8, l8, m', hm, w8⟩ => ?_
      refine thn (mt_append _ s8 σ7 H8 (.ref D) [v8] (.ref D) [u8] (fun _ H9 => H9 = upd H8 D (.lst (xs ++ [v8]))) I8 rfl (.cons r8 .nil) ⟨D, xs, v8, rfl, rfl, e8, l8, rfl⟩) fun _ s9 ⟨v9, H9, I9, _, e9⟩ => ?_
      subst e9
      refine ⟨m', hm, i + 1, σ7, _, I9.unpinned, T.keep _ _ _ st6 fun b hb o e => (I9.pin (b, o) (List.mem_append_right _ (List.mem_append_right _ (mem_pinsAt hb e)))).1, fun b hb => ?_, w8⟩
      obtain ⟨o, e, d⟩ := T.obj _ _ st6 b hb
      exact (I9.pin (b, o) (List.mem_append_right _ (List.mem_append_right _ (mem_pinsAt hb e)))).2.1
  exact codeAny_compStart_list lp (T.self _ 0 _ _ _ st3 lp)
theorem pe_compIf {wi : TI} {g : TG} {tt : TT} {te : TE} (N : List Str) (js : List (Option Nat)) (hc : X.calm = true) (hi : PI X tg iter wi)
    (hg : ∀ fp s H, PG (cxComp X scope N fp s H) tg g) (ht : ∀ fp s H, PT (cxComp X scope N fp s H) tst tt) (he : ∀ fp s H, PE (cxComp X scope N fp s H) elt te) (hk : scope.kind = .function := by rfl) (hck : compChk X scope N js = true := by rfl)
    (hs : ∀ x, foldedSetIterable iter X.env x = pure x := by intro _; rfl) : PE X (.ListComp elt [⟨tg, iter, [tst], 0⟩] scope pos) (tCompIf js wi g tt te) := by
  intro pins s σ H Q I h
  rw [eval_ListComp]
  refine compIf_core (use := none) hc hi hk hck hg ht he hs I h fun D C H' s' I' hC fC q => ?_
  obtain ⟨m, hn⟩ := hC
  refine ⟨m, hn, fun h' sb => ?_⟩
  obtain ⟨f0, f1, f2, f3, f4, f5⟩ := fC
  exact ⟨.ref D, H', I'.turned (t' := s'.toks) (fun b o hb e => (sb.2 b hb).trans e) f0 f1 f3 f4 f5, rfl, q⟩
end
end L2
set_option maxRecDepth 100000
set_option maxHeartbeats 1600000
namespace L2
open PySem PySem.Spec PyProof.Rows LS
def tNo : TE := fun _ _ _ => False
section
variable {X : Cx}
theorem pe_no {e : Expr} : PE X e tNo := fun _ _ _ _ _ _ h => h.elim
theorem call_dictE : CallR X (.type "dict") (fun xs H Q => ∃ d, xs = [V.ref d] ∧ H d = some (.dT []) ∧ ∀ p, H p = none → Q (.ref p) (upd H p (.dT []))) := by
  intro pins s σ H xs us Q I r h
  obtain ⟨d, rfl, hd, q⟩ := h
  obtain ⟨u, rfl, rx⟩ := vals1 r
  cases rx
  obtain ⟨z1, z2, ys, rel, o, es, ep, h1, h2, h3, h4, h5⟩ := (show ObjOk X.prog X.w H s.heap d (.dT []) from I.hok d _ hd)
  cases rel
  have he : es = #[] := by cases es; simpa using h4
  subst he
  have dd : s.heap.DictOf (mixKind X.prog X.w) d [] := ⟨o, #[], ep, h1, h2, h3, fun e hm => by simp at hm, .nil, List.nodup_nil⟩
  refine kt_call_dict z2 dd (Nat.zero_le _) fun h' dd' hs => ?_
  obtain ⟨o', es', ep', g1, g2, g3, g4, g5, g6⟩ := dd'
  have he' : es' = #[] := by
    have := g5.length
    cases es'
    simpa using this
  subst he'
  refine ⟨.ref s.heap.objs.size, _, I.laid (o := .dT []) (t' := s.toks) (fun b q hq => ?_) (Nat.le_refl _) ⟨Nat.zero_le _, beq_eq_false_iff_ne.mpr (Ne.symm (Nat.ne_of_lt I.big)), [], .nil, o', #[], ep', g1, g2, g3, rfl, List.nodup_nil⟩, rfl, q _ (I.hok.fresh (Nat.le_refl _))⟩
  exact (hs.2 b (Nat.ne_of_lt (Heap.lt_size hq))).trans (Heap.get?_push_of_some _ hq)
theorem refs_are : ∀ {ks : List (List Key × Addr)} {its : List Value}, Vals (ks.map fun x => V.ref x.2) its → its = ks.map fun x => Value.ref x.2
  | [], its, rv => by rw [List.map_nil] at rv; cases rv; rfl
  | k :: ks, its, rv => by
    rw [List.map_cons] at rv
    cases rv with
    | cons r1 t1 => cases r1; rw [List.map_cons, refs_are t1]
theorem call_setL (hc : X.calm = true) (hu : X.A.units + 64 < cLine) : CallR X (.type "set") (fun xs H Q => ∃ (l : Addr) (ks : List (List Key × Addr)), xs = [V.ref l] ∧ H l = some (.lst (ks.map fun x => V.ref x.2)) ∧ KeysAt H ks ∧ (∀ z ∈ ks, TxtKey z.1) ∧ ks.length ≤ 36 ∧
    ∀ p zs, H p = none → Firsts zs ks → (zs.map (·.1)).Nodup → Q (.ref p) (upd H p (setO X.prog X.w p zs))) := by
  intro pins s σ H xs us Q I r h
  obtain ⟨l, ks, rfl, hl, hk, ht, hn, q⟩ := h
  obtain ⟨u, rfl, rx⟩ := vals1 r
  cases rx
  refine set_of fun led A' hled hA hH => ?_
  have k0 : ∀ b o, s.heap.get? b = some o → (s.heap.push (freshSet led)).get? b = some o := fun b o e => Heap.get?_push_of_some _ e
  have hS : (s.heap.push (freshSet led)).get? s.heap.objs.size = some (freshSet led) := Heap.get?_push_size _ rfl
  have I0 : Inv X pins σ H { s with heap := s.heap.push (freshSet led) } := I.kept (t' := s.toks) k0
  obtain ⟨_, its, n, rv, e1⟩ := (show ObjOk X.prog X.w H _ l (.lst (ks.map fun x => V.ref x.2)) from I0.hok l _ hl)
  have hi : its = ks.map fun x => Value.ref x.2 := refs_are rv
  refine upd_list (s := { s with heap := s.heap.push (freshSet led) }) (kn := mixKind X.prog X.w) (p := l) (items := its.toArray) (l := ks) (by rw [hH]; exact I.ok.hd hc) (by omega) hled hS ⟨_, e1, rfl, _, rfl⟩ (by simpa using hi) hn (fun x hx => ⟨key_of I0.hok (hk x hx), (txtTup_of I0.hok (hk x hx) (ht x hx)).2⟩) fun s' zs kp g o d hz hf => ?_
  have nS : s.heap.get? s.heap.objs.size = none := none_size _
  have keep : ∀ b o, s.heap.get? b = some o → s'.heap.get? b = some o := fun b o e => kp b o (by rintro rfl; rw [nS] at e; cases e) (k0 b o e)
  have I1 : Inv X pins σ (upd H s.heap.objs.size (setO X.prog X.w s.heap.objs.size zs)) { s with heap := s'.heap, toks := s'.toks } := I.laid (t' := s'.toks) keep (Nat.le_refl _) (setO_ok hz)
  have es : s' = { ({ s with heap := s'.heap, toks := s'.toks } : Shared) with drawn := s'.drawn } := by
    cases s'
    simp only at g o ⊢
    rw [g, o]
  refine ⟨.ref s.heap.objs.size, _, ?_, rfl, q _ zs (I.hok.fresh (Nat.le_refl _)) hf ?_⟩
  · rw [es]
    exact I1.redrawn _
  · obtain ⟨_, _, _, _, _, _, _, S, _⟩ := hz
    exact S.nd
end
end L2
set_option maxRecDepth 100000
set_option maxHeartbeats 1600000
namespace LS
open PySem PySem.Spec PyProof.Rows L2
def two : Option (Int × Tok) → Array Value
  | none => #[]
  | some (m, t) => #[.int m t, .int m t]
def Best (r : Int → Int → Prop) : Option Int → List Int → Prop
  | none, l => l = []
  | some m, l => m ∈ l ∧ ∀ a ∈ l, r m a
section
variable {prog : Program} {w : World} {A : Around} {E : Value → Shared → Prop} {s : Shared} {R : Result → Shared → Prop}
theorem min_go {I p S : Addr} {its : List Value} {ns : List Int} {d : Value} (hv : Vals (ns.map V.int) its) (hh : A.handled = none) (hIp : p ≠ I) (hSI : S ≠ I) (hSp : S ≠ p) :
    ∀ (k i : Nat) (s : Shared) (c : Nat) (best : Option (Int × Tok)), ns.length - i = k → i ≤ ns.length → s.heap.IsListIter I p i ∧ s.heap.IsList p its.toArray → s.heap.get? S = some { cls := .type "list", dict := none, data := .seq (two best) c, slots := #[] } → Best (fun a b => a ≤ b) (best.map (·.1)) (ns.take i) →
      (∀ v h' tk, (ns = [] → v = d) → (ns ≠ [] → ∃ m t, v = .int m t ∧ m ∈ ns ∧ ∀ a ∈ ns, m ≤ a) → (∀ b o, b ≠ S → b ≠ I → s.heap.get? b = some o → h'.get? b = some o) → R (.ok (.ret v)) { s with heap := h', toks := tk }) →
      codeAny (model prog w) A (.builtin "min.loop" ⟨[.ref I, .none, .ref S], [(Str.ofString "default", d)]⟩) R s := by
  have W := Walks.list (prog := prog) (w := w) (A := A.in1) hh I p hIp its.toArray
  have hn : its.toArray.size = ns.length := by rw [List.size_toArray, ← hv.length, List.length_map]
  have hname : (toString "min" ++ toString ".loop" : String) = "min.loop" := (by decide); intro k
  induction k with
  | zero =>
    intro i s c best hk hil hst hS hB hR
    have hin : i = ns.length := (by omega); refine codeAny_builtin F.entry_min_loop ?_
    rw [Around.under_plainId F.plain_min_loop _]; show wpAny _ A.in1 (seqItems? (.ref S) >>= _) _ _ s
    refine wpAny_bind (wpAny_seqItems hS rfl ?_); show wpAny _ A.in1 (tryCatch (pyNext (.ref I)) _ >>= _) _ _ s
    refine wpAny_bind (wpAny_tryCatch (W.done s _ _ (by rw [hn, ← hin]; exact hst) fun h' tk hk' => ?_))
    have hS' := hk' S _ (by simpa using hSI) hS
    rw [hin, List.take_length] at hB
    cases best with
    | none =>
      have e : ns = [] := hB
      show wpAny _ A.in1 (rule _ >>= _) _ _ _
      refine wpAny_bind (wpAny_rule (wpAny_pure (hR d h' tk (fun _ => rfl) (fun z => absurd e z) fun b o _ hb x => hk' b o (by simpa using hb) x)))
    | some mt =>
      obtain ⟨m, t⟩ := mt
      obtain ⟨b1, b2⟩ := (show m ∈ ns ∧ ∀ a ∈ ns, m ≤ a from hB)
      show wpAny _ A.in1 (updateSeq S (fun _ => #[]) >>= _) _ _ _; have hS2 : h'.get? S = some { cls := .type "list", dict := none, data := .seq #[.int m t, .int m t] c, slots := #[] } := hS'
      refine wpAny_bind (wpAny_updateSeq hS2 rfl (wpAny_bind (wpAny_letGo (wpAny_pure ?_))))
      exact hR _ _ tk (fun z => by rw [z] at b1; simp at b1) (fun _ => ⟨m, t, rfl, b1, b2⟩) fun b o hbS hb x => (Heap.get?_update_other _ _ (Ne.symm hbS)).trans (hk' b o (by simpa using hb) x)
  | succ k ih =>
    intro i s c best hk hil hst hS hB hR
    have hlt : i < ns.length := (by omega); refine codeAny_builtin F.entry_min_loop ?_
    rw [Around.under_plainId F.plain_min_loop _]; show wpAny _ A.in1 (seqItems? (.ref S) >>= _) _ _ s
    refine wpAny_bind (wpAny_seqItems hS rfl ?_); show wpAny _ A.in1 (tryCatch (pyNext (.ref I)) _ >>= _) _ _ s
    refine wpAny_bind (wpAny_tryCatch (W.item i s _ _ (by omega) hst fun v h' tk hP hst' hk' => ?_))
    have hS' := hk' S _ (by simpa using hSI) hS
    have hP' : its[i]? = some v := by simpa using hP
    obtain ⟨x, hx1, hx2⟩ := vals_at hv hP'
    obtain ⟨n, hn1, hn2⟩ : ∃ n, ns[i]? = some n ∧ x = V.int n := by
      rw [List.getElem?_map, List.getElem?_eq_getElem hlt] at hx1
      exact ⟨ns[i], List.getElem?_eq_getElem hlt, (Option.some.inj hx1).symm⟩
    subst hn2
    obtain ⟨t, rfl⟩ := (show ∃ t, v = Value.int n t from hx2)
    have tk1 : ns.take (i + 1) = ns.take i ++ [n] := by rw [List.take_add_one, hn1]; rfl
    have put : ∀ c' : Nat, (h'.update S (Obj.mapSeq fun _ => #[.int n t, .int n t])).IsListIter I p (i + 1) ∧ (h'.update S (Obj.mapSeq fun _ => #[.int n t, .int n t])).IsList p its.toArray := fun _ => by
      refine W.frame (i + 1) h' _ hst' fun b hb o e => (Heap.get?_update_other _ _ fun z : S = b => ?_).trans e
      rcases List.mem_cons.mp hb with q | q
      · exact hSI (z.trans q)
      · exact hSp (z.trans (by simpa using q))
    cases best with
    | none =>
      show wpAny _ A.in1 (updateSeq S (fun _ => #[Value.int n t, Value.int n t]) >>= _) _ _ _
      refine wpAny_bind (wpAny_updateSeq hS' rfl ?_); rw [hname]
      have e : ns.take i = [] := hB
      refine wpAny_pure ⟨plainId_quiet F.plain_min_loop _, ih (i + 1) _ _ (some (n, t)) (by omega) hlt (put 0) (Heap.get?_update_self _ hS' rfl) ?_ fun v' h2 tk2 g1 g2 g3 => hR v' h2 tk2 g1 g2 fun b o hbS hb x => g3 b o hbS hb ((Heap.get?_update_other _ _ (Ne.symm hbS)).trans (hk' b o (by simpa using hb) x))⟩
      rw [tk1, e]
      show n ∈ ([] ++ [n] : List Int) ∧ ∀ a ∈ ([] ++ [n] : List Int), n ≤ a
      exact ⟨by simp, fun a ha => by simp at ha; omega⟩
    | some mt =>
      obtain ⟨m, u⟩ := mt
      obtain ⟨b1, b2⟩ := (show m ∈ ns.take i ∧ ∀ a ∈ ns.take i, m ≤ a from hB)
      have cmp := CmpOf.ints_lt (prog := prog) (w := w) (A := A.in1) (P := fun j v => ∃ t, v = Value.int (if j = 0 then n else m) t) (fun j => if j = 0 then n else m) (fun _ _ z => z)
      show wpAny _ A.in1 (tryCatch (holding [Value.int n t, Value.int n t] (richCompare .Lt (.int n t) (.int m u) >>= _)) _ >>= _) _ _ _
      refine wpAny_bind (wpAny_tryCatch (wpAny_holding (wpAny_bind (cmp 0 1 (.int n t) (.int m u) _ _ _ ⟨t, rfl⟩ ⟨u, rfl⟩ (wpAny_bind (wpAny_holding (wpAny_truthy_bool (wpAny_bind (wpAny_letGo (wpAny_pure ?_)))))))))) 
      have hS2 : h'.get? S = some { cls := .type "list", dict := none, data := .seq #[.int m u, .int m u] c, slots := #[] } := hS'
      change wpAny _ _ (if decide (n < m) = true then _ else _) _ _ _
      by_cases hb : n < m
      · rw [decide_eq_true hb, if_pos rfl]
        refine wpAny_bind (wpAny_updateSeq hS2 rfl (wpAny_bind (wpAny_letGo ?_)))
        rw [hname]
        refine wpAny_pure ⟨plainId_quiet F.plain_min_loop _, ih (i + 1) _ _ (some (n, t)) (by omega) hlt (put 0) (Heap.get?_update_self _ hS' rfl) ?_ fun v' h2 tk2 g1 g2 g3 => hR v' h2 tk2 g1 g2 fun b o hbS hb x => g3 b o hbS hb ((Heap.get?_update_other _ _ (Ne.symm hbS)).trans (hk' b o (by simpa using hb) x))⟩
        rw [tk1]; show n ∈ ns.take i ++ [n] ∧ ∀ a ∈ ns.take i ++ [n], n ≤ a
        refine ⟨by simp, fun a ha => ?_⟩
        rcases List.mem_append.mp ha with q | q
        · have := b2 a q; omega
        · simp at q; omega
      · rw [decide_eq_false hb, if_neg Bool.false_ne_true]
        refine wpAny_bind (wpAny_letGo ?_); rw [hname]
        refine wpAny_pure ⟨plainId_quiet F.plain_min_loop _, ih (i + 1) _ c (some (m, u)) (by omega) hlt hst' hS' ?_ fun v' h2 tk2 g1 g2 g3 => hR v' h2 tk2 g1 g2 fun b o hbS hb x => g3 b o hbS hb (hk' b o (by simpa using hb) x)⟩
        rw [tk1]; show m ∈ ns.take i ++ [n] ∧ ∀ a ∈ ns.take i ++ [n], m ≤ a
        refine ⟨List.mem_append_left _ b1, fun a ha => ?_⟩
        rcases List.mem_append.mp ha with q | q
        · exact b2 a q
        · simp at q; omega
theorem args_minD (a v : Value) : argsOk "min" ⟨[a], [(Str.ofString "default", v)]⟩ := by unfold argsOk; kernel_rfl
theorem min_def {p : Addr} {its : List Value} {ns : List Int} {d : Value} {Q : Value → Shared → Prop} (hv : Vals (ns.map V.int) its) (hh : A.handled = none) (hp : s.heap.IsList p its.toArray)
    (h : ∀ v h' tk, (ns = [] → v = d) → (ns ≠ [] → ∃ m t, v = .int m t ∧ m ∈ ns ∧ ∀ a ∈ ns, m ≤ a) → (∀ b o, s.heap.get? b = some o → h'.get? b = some o) → Q v { s with heap := h', toks := tk }) :
    wpAny (model prog w) A (call (.builtin "min") [.ref p] [(Str.ofString "default", d)]) Q E s := by
  have hname : (toString "min" ++ toString ".loop" : String) = "min.loop" := (by decide); obtain ⟨op, hop, hrest⟩ := id hp
  have hpl := Heap.lt_size hop
  refine kmk_tree F.kind_min F.plain_min F.entry_min (args_minD _ _) ?_
  show wpAny _ A.in1 (Builtin.Builtins.bindParams "min" ["key", "default"] 0 ⟨[], [(Str.ofString "default", d)]⟩ >>= _) _ _ s
  refine wpAny_bind (wpAny_of_eq (show Builtin.Builtins.bindParams "min" ["key", "default"] 0 ⟨[], [(Str.ofString "default", d)]⟩ = pure [none, some d] from rfl) (wpAny_bind (wpAny_pure (wpAny_bind (wpAny_pyIter_list hp (wpAny_bind (wpAny_newList ?_ (Nat.zero_le _))))))))
  rw [hname]
  generalize hoi : ({ cls := Value.type "list_iterator", data := Data.fields #[Value.ref p, Value.int 0 0] } : Obj) = oI
  have k1 : ∀ b o, s.heap.get? b = some o → ((s.heap.push oI).push (seqObj "list" #[] 0)).get? b = some o := fun b o e => Heap.get?_push_of_some _ (Heap.get?_push_of_some _ e)
  have z1 : (s.heap.push oI).objs.size = s.heap.objs.size + 1 := Heap.size_push ..
  have z2 : s.heap.objs.size < (s.heap.push oI).objs.size := by rw [z1]; exact Nat.lt_succ_self _
  refine wpAny_pure ⟨plainId_quiet F.plain_min_loop _, min_go hv hh (I := s.heap.objs.size) (S := (s.heap.push oI).objs.size) (Nat.ne_of_lt hpl) (Nat.ne_of_gt z2) (Nat.ne_of_gt (Nat.lt_trans hpl z2)) ns.length 0 _ 0 none (by omega) (Nat.zero_le _) ⟨⟨oI, Heap.get?_push_of_some _ (Heap.get?_push_size _ (by rw [← hoi]; rfl)), by rw [← hoi], by rw [← hoi]; rfl⟩, ⟨op, k1 _ _ hop, hrest⟩⟩ (Heap.get?_push_size _ rfl) rfl fun v h' tk g1 g2 g3 => ?_⟩
  exact h v h' tk g1 g2 fun b o e => g3 b o (Nat.ne_of_lt (Nat.lt_trans (Heap.lt_size e) z2)) (Nat.ne_of_lt (Heap.lt_size e)) (k1 b o e)
theorem max_go {I p S : Addr} {its : List Value} {ns : List Int} {d : Value} (hv : Vals (ns.map V.int) its) (hh : A.handled = none) (hIp : p ≠ I) (hSI : S ≠ I) (hSp : S ≠ p) :
    ∀ (k i : Nat) (s : Shared) (c : Nat) (best : Option (Int × Tok)), ns.length - i = k → i ≤ ns.length → s.heap.IsListIter I p i ∧ s.heap.IsList p its.toArray → s.heap.get? S = some { cls := .type "list", dict := none, data := .seq (two best) c, slots := #[] } → Best (fun a b => a ≥ b) (best.map (·.1)) (ns.take i) →
      (∀ v h' tk, (ns = [] → v = d) → (ns ≠ [] → ∃ m t, v = .int m t ∧ m ∈ ns ∧ ∀ a ∈ ns, m ≥ a) → (∀ b o, b ≠ S → b ≠ I → s.heap.get? b = some o → h'.get? b = some o) → R (.ok (.ret v)) { s with heap := h', toks := tk }) →
      codeAny (model prog w) A (.builtin "max.loop" ⟨[.ref I, .none, .ref S], [(Str.ofString "default", d)]⟩) R s := by
  have W := Walks.list (prog := prog) (w := w) (A := A.in1) hh I p hIp its.toArray
  have hn : its.toArray.size = ns.length := by rw [List.size_toArray, ← hv.length, List.length_map]
  have hname : (toString "max" ++ toString ".loop" : String) = "max.loop" := (by decide); intro k
  induction k with
  | zero =>
    intro i s c best hk hil hst hS hB hR
    have hin : i = ns.length := (by omega); refine codeAny_builtin F.entry_max_loop ?_
    rw [Around.under_plainId F.plain_max_loop _]; show wpAny _ A.in1 (seqItems? (.ref S) >>= _) _ _ s
    refine wpAny_bind (wpAny_seqItems hS rfl ?_); show wpAny _ A.in1 (tryCatch (pyNext (.ref I)) _ >>= _) _ _ s
    refine wpAny_bind (wpAny_tryCatch (W.done s _ _ (by rw [hn, ← hin]; exact hst) fun h' tk hk' => ?_))
    have hS' := hk' S _ (by simpa using hSI) hS
    rw [hin, List.take_length] at hB
    cases best with
    | none =>
      have e : ns = [] := hB
      show wpAny _ A.in1 (rule _ >>= _) _ _ _
      refine wpAny_bind (wpAny_rule (wpAny_pure (hR d h' tk (fun _ => rfl) (fun z => absurd e z) fun b o _ hb x => hk' b o (by simpa using hb) x)))
    | some mt =>
      obtain ⟨m, t⟩ := mt
      obtain ⟨b1, b2⟩ := (show m ∈ ns ∧ ∀ a ∈ ns, m ≥ a from hB)
      show wpAny _ A.in1 (updateSeq S (fun _ => #[]) >>= _) _ _ _; have hS2 : h'.get? S = some { cls := .type "list", dict := none, data := .seq #[.int m t, .int m t] c, slots := #[] } := hS'
      refine wpAny_bind (wpAny_updateSeq hS2 rfl (wpAny_bind (wpAny_letGo (wpAny_pure ?_))))
      exact hR _ _ tk (fun z => by rw [z] at b1; simp at b1) (fun _ => ⟨m, t, rfl, b1, b2⟩) fun b o hbS hb x => (Heap.get?_update_other _ _ (Ne.symm hbS)).trans (hk' b o (by simpa using hb) x)
  | succ k ih =>
    intro i s c best hk hil hst hS hB hR
    have hlt : i < ns.length := (by omega); refine codeAny_builtin F.entry_max_loop ?_
    rw [Around.under_plainId F.plain_max_loop _]; show wpAny _ A.in1 (seqItems? (.ref S) >>= _) _ _ s
    refine wpAny_bind (wpAny_seqItems hS rfl ?_); show wpAny _ A.in1 (tryCatch (pyNext (.ref I)) _ >>= _) _ _ s
    refine wpAny_bind (wpAny_tryCatch (W.item i s _ _ (by omega) hst fun v h' tk hP hst' hk' => ?_))
    have hS' := hk' S _ (by simpa using hSI) hS
    have hP' : its[i]? = some v := by simpa using hP
    obtain ⟨x, hx1, hx2⟩ := vals_at hv hP'
    obtain ⟨n, hn1, hn2⟩ : ∃ n, ns[i]? = some n ∧ x = V.int n := by
      rw [List.getElem?_map, List.getElem?_eq_getElem hlt] at hx1
      exact ⟨ns[i], List.getElem?_eq_getElem hlt, (Option.some.inj hx1).symm⟩
    subst hn2
    obtain ⟨t, rfl⟩ := (show ∃ t, v = Value.int n t from hx2)
    have tk1 : ns.take (i + 1) = ns.take i ++ [n] := by rw [List.take_add_one, hn1]; rfl
    have put : ∀ c' : Nat, (h'.update S (Obj.mapSeq fun _ => #[.int n t, .int n t])).IsListIter I p (i + 1) ∧ (h'.update S (Obj.mapSeq fun _ => #[.int n t, .int n t])).IsList p its.toArray := fun _ => by
      refine W.frame (i + 1) h' _ hst' fun b hb o e => (Heap.get?_update_other _ _ fun z : S = b => ?_).trans e
      rcases List.mem_cons.mp hb with q | q
      · exact hSI (z.trans q)
      · exact hSp (z.trans (by simpa using q))
    cases best with
    | none =>
      show wpAny _ A.in1 (updateSeq S (fun _ => #[Value.int n t, Value.int n t]) >>= _) _ _ _
      refine wpAny_bind (wpAny_updateSeq hS' rfl ?_); rw [hname]
      have e : ns.take i = [] := hB
      refine wpAny_pure ⟨plainId_quiet F.plain_max_loop _, ih (i + 1) _ _ (some (n, t)) (by omega) hlt (put 0) (Heap.get?_update_self _ hS' rfl) ?_ fun v' h2 tk2 g1 g2 g3 => hR v' h2 tk2 g1 g2 fun b o hbS hb x => g3 b o hbS hb ((Heap.get?_update_other _ _ (Ne.symm hbS)).trans (hk' b o (by simpa using hb) x))⟩
      rw [tk1, e]
      show n ∈ ([] ++ [n] : List Int) ∧ ∀ a ∈ ([] ++ [n] : List Int), n ≥ a
      exact ⟨by simp, fun a ha => by simp at ha; omega⟩
    | some mt =>
      obtain ⟨m, u⟩ := mt
      obtain ⟨b1, b2⟩ := (show m ∈ ns.take i ∧ ∀ a ∈ ns.take i, m ≥ a from hB)
      have cmp := CmpOf.ints_gt (prog := prog) (w := w) (A := A.in1) (P := fun j v => ∃ t, v = Value.int (if j = 0 then n else m) t) (fun j => if j = 0 then n else m) (fun _ _ z => z)
      show wpAny _ A.in1 (tryCatch (holding [Value.int n t, Value.int n t] (richCompare .Gt (.int n t) (.int m u) >>= _)) _ >>= _) _ _ _
      refine wpAny_bind (wpAny_tryCatch (wpAny_holding (wpAny_bind (cmp 0 1 (.int n t) (.int m u) _ _ _ ⟨t, rfl⟩ ⟨u, rfl⟩ (wpAny_bind (wpAny_holding (wpAny_truthy_bool (wpAny_bind (wpAny_letGo (wpAny_pure ?_)))))))))) 
      have hS2 : h'.get? S = some { cls := .type "list", dict := none, data := .seq #[.int m u, .int m u] c, slots := #[] } := hS'
      change wpAny _ _ (if decide (n > m) = true then _ else _) _ _ _
      by_cases hb : n > m
      · rw [decide_eq_true hb, if_pos rfl]
        refine wpAny_bind (wpAny_updateSeq hS2 rfl (wpAny_bind (wpAny_letGo ?_)))
        rw [hname]
        refine wpAny_pure ⟨plainId_quiet F.plain_max_loop _, ih (i + 1) _ _ (some (n, t)) (by omega) hlt (put 0) (Heap.get?_update_self _ hS' rfl) ?_ fun v' h2 tk2 g1 g2 g3 => hR v' h2 tk2 g1 g2 fun b o hbS hb x => g3 b o hbS hb ((Heap.get?_update_other _ _ (Ne.symm hbS)).trans (hk' b o (by simpa using hb) x))⟩
        rw [tk1]; show n ∈ ns.take i ++ [n] ∧ ∀ a ∈ ns.take i ++ [n], n ≥ a
        refine ⟨by simp, fun a ha => ?_⟩
        rcases List.mem_append.mp ha with q | q
        · have := b2 a q; omega
        · simp at q; omega
      · rw [decide_eq_false hb, if_neg Bool.false_ne_true]
        refine wpAny_bind (wpAny_letGo ?_); rw [hname]
        refine wpAny_pure ⟨plainId_quiet F.plain_max_loop _, ih (i + 1) _ c (some (m, u)) (by omega) hlt hst' hS' ?_ fun v' h2 tk2 g1 g2 g3 => hR v' h2 tk2 g1 g2 fun b o hbS hb x => g3 b o hbS hb (hk' b o (by simpa using hb) x)⟩
        rw [tk1]; show m ∈ ns.take i ++ [n] ∧ ∀ a ∈ ns.take i ++ [n], m ≥ a
        refine ⟨List.mem_append_left _ b1, fun a ha => ?_⟩
        rcases List.mem_append.mp ha with q | q
        · exact b2 a q
        · simp at q; omega
theorem args_maxD (a v : Value) : argsOk "max" ⟨[a], [(Str.ofString "default", v)]⟩ := by unfold argsOk; kernel_rfl
theorem max_def {p : Addr} {its : List Value} {ns : List Int} {d : Value} {Q : Value → Shared → Prop} (hv : Vals (ns.map V.int) its) (hh : A.handled = none) (hp : s.heap.IsList p its.toArray)
    (h : ∀ v h' tk, (ns = [] → v = d) → (ns ≠ [] → ∃ m t, v = .int m t ∧ m ∈ ns ∧ ∀ a ∈ ns, m ≥ a) → (∀ b o, s.heap.get? b = some o → h'.get? b = some o) → Q v { s with heap := h', toks := tk }) :
    wpAny (model prog w) A (call (.builtin "max") [.ref p] [(Str.ofString "default", d)]) Q E s := by
  have hname : (toString "max" ++ toString ".loop" : String) = "max.loop" := (by decide); obtain ⟨op, hop, hrest⟩ := id hp
  have hpl := Heap.lt_size hop
  refine kmk_tree F.kind_max F.plain_max F.entry_max (args_maxD _ _) ?_
  show wpAny _ A.in1 (Builtin.Builtins.bindParams "max" ["key", "default"] 0 ⟨[], [(Str.ofString "default", d)]⟩ >>= _) _ _ s
  refine wpAny_bind (wpAny_of_eq (show Builtin.Builtins.bindParams "max" ["key", "default"] 0 ⟨[], [(Str.ofString "default", d)]⟩ = pure [none, some d] from rfl) (wpAny_bind (wpAny_pure (wpAny_bind (wpAny_pyIter_list hp (wpAny_bind (wpAny_newList ?_ (Nat.zero_le _))))))))
  rw [hname]
  generalize hoi : ({ cls := Value.type "list_iterator", data := Data.fields #[Value.ref p, Value.int 0 0] } : Obj) = oI
  have k1 : ∀ b o, s.heap.get? b = some o → ((s.heap.push oI).push (seqObj "list" #[] 0)).get? b = some o := fun b o e => Heap.get?_push_of_some _ (Heap.get?_push_of_some _ e)
  have z1 : (s.heap.push oI).objs.size = s.heap.objs.size + 1 := Heap.size_push ..
  have z2 : s.heap.objs.size < (s.heap.push oI).objs.size := by rw [z1]; exact Nat.lt_succ_self _
  refine wpAny_pure ⟨plainId_quiet F.plain_max_loop _, max_go hv hh (I := s.heap.objs.size) (S := (s.heap.push oI).objs.size) (Nat.ne_of_lt hpl) (Nat.ne_of_gt z2) (Nat.ne_of_gt (Nat.lt_trans hpl z2)) ns.length 0 _ 0 none (by omega) (Nat.zero_le _) ⟨⟨oI, Heap.get?_push_of_some _ (Heap.get?_push_size _ (by rw [← hoi]; rfl)), by rw [← hoi], by rw [← hoi]; rfl⟩, ⟨op, k1 _ _ hop, hrest⟩⟩ (Heap.get?_push_size _ rfl) rfl fun v h' tk g1 g2 g3 => ?_⟩
  exact h v h' tk g1 g2 fun b o e => g3 b o (Nat.ne_of_lt (Nat.lt_trans (Heap.lt_size e) z2)) (Nat.ne_of_lt (Heap.lt_size e)) (k1 b o e)
end
end LS
set_option maxRecDepth 100000
set_option maxHeartbeats 1600000
namespace L2
open PySem PySem.Spec PyProof.Rows LS
def CallKR (X : Cx) (f : Value) (ks : List Str) (r : List V → List V → Hp → VK → Prop) : Prop :=
  ∀ (pins : List (Addr × Obj)) (s : Shared) (σ : St) (H : Hp) (xs zs : List V) (us ws : List Value) (Q : VK), Inv X pins σ H s → Vals xs us → Vals zs ws → r xs zs H Q → wpAny (model X.prog X.w) X.A (call f us (ks.zip ws)) (EP X pins σ Q) X.xe s
def tCBK (r : List V → List V → Hp → VK → Prop) (t tk : TA) : TE := fun σ H Q => t σ H fun vs H1 => tk σ H1 fun zs H2 => r vs zs H2 Q
section
variable {X : Cx}
theorem pe_callBK {id : String} {ks : List Str} {r : List V → List V → Hp → VK → Prop} {x : Str} {p pos : Pos} {e : Expr} {es : List Expr} {kws : List Keyword} {t tk : TA} (hc : CallKR X (.builtin id) ks r) (hg : Gl X x) (hm : X.mg x = none) (hv : bootBuiltins x = some (.builtin id)) (ha : PA X (e :: es) t) (hk : PK X kws tk)
    (hn : x ≠ "__name__" := by decide) (hdb : (x == ("__debug__" : Str)) = false := by decide) (hks : (backToKw pos (keywordEach kws X.env)).filterMap (·.1) = ks := by rfl)
    (he : backTo pos (starEach (e :: es) X.env) = (false, eval e X.env) :: backTo pos (starEach es X.env) := by rfl) (hplain : (backTo pos (starEach (e :: es) X.env)).any (·.1) = false := by rfl)
    (hall : (backToKw pos (keywordEach kws X.env)).all (·.1.isSome) = true := by rfl) (hkw : (backToKw pos (keywordEach kws X.env)).any (·.1.isNone) = false := by rfl) : PE X (.Call (.Name x p) (e :: es) kws pos) (tCBK r t tk) := by
  intro pins s σ H Q I h
  refine wpAny_Call_Name_kw (ld_blt I hg hm hv ?_ hn hdb)
  refine PyProof.Rows.callWith_kw (thn (ha pos pins s σ H _ I h) fun us s1 ⟨vs, H1, I1, r1, q1⟩ => thn (hk pos pins s1 σ H1 _ I1 q1) fun ws s2 ⟨zs, H2, I2, r2, q2⟩ => ?_) he hplain hall hkw
  rw [hks]
  exact hc pins s2 σ H2 vs zs us ws Q I2 r1 r2 q2
theorem call_minD (K : PySem.W.Frag) (hc : X.calm = true) (hK : X.K = K := by rfl) : CallKR X (.builtin "min") ["default"] (fun xs zs H Q => ∃ (p : Addr) (ns : List Int) (d : Int), xs = [.ref p] ∧ zs = [.int d] ∧ SqL K H p (ns.map V.int) ∧ ∀ m, (ns = [] → m = d) → (ns ≠ [] → m ∈ ns ∧ ∀ a ∈ ns, m ≤ a) → Q (.int m) H) := by
  subst hK
  intro pins s σ H xs zs us ws Q I r rz h
  obtain ⟨p, ns, d, rfl, rfl, hq, q⟩ := h
  obtain ⟨u, rfl, rfl⟩ := vals1 r
  obtain ⟨w', rfl, rw'⟩ := vals1 rz
  obtain ⟨t, rfl⟩ := (show ∃ t, w' = Value.int d t from rw')
  obtain ⟨its, rv, pl, hz⟩ := I.list hq
  refine min_def (d := .int d t) rv (I.ok.hd hc) pl.isList fun v h' tk g1 g2 g3 => ?_
  by_cases e : ns = []
  · rw [g1 e]
    exact ⟨.int d, H, I.kept (t' := tk) g3, ⟨t, rfl⟩, q d (fun _ => rfl) (fun z => absurd e z)⟩
  · obtain ⟨m, t2, e1, e2, e3⟩ := g2 e
    rw [e1]
    exact ⟨.int m, H, I.kept (t' := tk) g3, ⟨t2, rfl⟩, q m (fun z => absurd z e) fun _ => ⟨e2, e3⟩⟩
theorem call_maxD (K : PySem.W.Frag) (hc : X.calm = true) (hK : X.K = K := by rfl) : CallKR X (.builtin "max") ["default"] (fun xs zs H Q => ∃ (p : Addr) (ns : List Int) (d : Int), xs = [.ref p] ∧ zs = [.int d] ∧ SqL K H p (ns.map V.int) ∧ ∀ m, (ns = [] → m = d) → (ns ≠ [] → m ∈ ns ∧ ∀ a ∈ ns, m ≥ a) → Q (.int m) H) := by
  subst hK
  intro pins s σ H xs zs us ws Q I r rz h
  obtain ⟨p, ns, d, rfl, rfl, hq, q⟩ := h
  obtain ⟨u, rfl, rfl⟩ := vals1 r
  obtain ⟨w', rfl, rw'⟩ := vals1 rz
  obtain ⟨t, rfl⟩ := (show ∃ t, w' = Value.int d t from rw')
  obtain ⟨its, rv, pl, hz⟩ := I.list hq
  refine max_def (d := .int d t) rv (I.ok.hd hc) pl.isList fun v h' tk g1 g2 g3 => ?_
  by_cases e : ns = []
  · rw [g1 e]
    exact ⟨.int d, H, I.kept (t' := tk) g3, ⟨t, rfl⟩, q d (fun _ => rfl) (fun z => absurd e z)⟩
  · obtain ⟨m, t2, e1, e2, e3⟩ := g2 e
    rw [e1]
    exact ⟨.int m, H, I.kept (t' := tk) g3, ⟨t2, rfl⟩, q m (fun z => absurd z e) fun _ => ⟨e2, e3⟩⟩
end
theorem call_isiC {X : Cx} (K : PySem.W.Frag) (hK : X.K = K := by rfl) : CallR X (.builtin "isinstance") (fun xs H Q => ∃ x C t b, xs = [x, .ref C] ∧ TyOf K H x t ∧ PySem.W.kitOne K t (.ref C) = some b ∧ Q (.bl b) H) := by
  subst hK
  intro pins s σ H xs us Q I r h
  obtain ⟨x, C, t, b, rfl, ht, hb, q⟩ := h
  obtain ⟨u, w', rfl, r1, r2⟩ := vals2 r
  cases r2
  exact isinst_ok I r1 ht hb fun tk => ⟨.bl b, H, I.tok tk, rfl, q⟩
theorem compIf_pr {α : Type} {K : PySem.W.Frag} {a D : Addr} {xs : List V} {us : List α} {g : TG} {tt : TT} {te : TE} {σ0 : St} {H1 : Hp} {Q : Hp → Prop} (p : α → Bool) (f : α → V) (ok : St → Prop)
    (sq : SqL K H1 a xs) (hD : H1 D = none) (hz : xs.length ≤ 1000) (hlen : us.length = xs.length) (h0 : ok σ0)
    (hs : ∀ (i : Nat) x u σ' H (N : St → Bool → V → Hp → Prop), xs[i]? = some x → us[i]? = some u → ok σ' → Same H1 H → (∀ σ3 H4, Same H H4 → ok σ3 → N σ3 (p u) (f u) H4) → g x σ' H fun σ3 H3 => tt σ3 H3 fun b H4 => if b = true then te σ3 H4 fun v H5 => N σ3 true v H5 else N σ3 false (f u) H4)
    (hd : ∀ H', Same H1 H' → H' D = some (.lst ((us.filter p).map f)) → Q H') :
    ∃ W : Nat → Nat → St → Hp → Prop, (∃ m, W 0 m σ0 (upd H1 D (.lst []))) ∧
      ∀ i m σ' H', W i m σ' H' → ((Itl K a).stop i H' ∧ Q H') ∨ ((Itl K a).go i H' ∧ ∀ x H2, (Itl K a).yld i H' x H2 → g x σ' H2 fun σ3 H3 => tt σ3 H3 fun b H4 => if b = true then te σ3 H4 fun v H5 => ∃ xs, H5 D = some (.lst xs) ∧ xs.length < sizeLine ∧ ∃ m', m' < m ∧ W (i + 1) m' σ3 (upd H5 D (.lst (xs ++ [v]))) else ∃ m', m' < m ∧ W (i + 1) m' σ3 H4) := by
  refine ⟨fun i m σ' H' => m = xs.length - i ∧ i ≤ xs.length ∧ ok σ' ∧ Same H1 H' ∧ H' D = some (.lst (((us.take i).filter p).map f)), ⟨xs.length, by simp, Nat.zero_le _, h0, Same.new hD, by rw [List.take_zero]; exact upd_same⟩, ?_⟩
  rintro i m σ' H' ⟨rfl, hi, hok, hsm, hy⟩
  have sq' := hsm.seq sq
  by_cases hlt : i < xs.length
  · refine .inr ⟨⟨xs, xs[i], sq', by simp [hlt]⟩, fun x H2 y => ?_⟩
    obtain ⟨e, y⟩ := y
    subst e
    have hx := y xs sq'
    have hu : us[i]? = some us[i] := List.getElem?_eq_getElem (by omega)
    have tk : us.take (i + 1) = us.take i ++ [us[i]] := by rw [List.take_add_one, hu]; rfl
    have sml : (((us.take i).filter p).map f).length < sizeLine := by
      rw [List.length_map]
      have := List.length_filter_le p (us.take i)
      rw [List.length_take] at this
      exact Nat.lt_of_lt_of_le (show _ < 1001 by omega) (by decide)
    refine hs i x us[i] σ' _ (fun σ3 b v H5 => if b = true then ∃ ys, H5 D = some (.lst ys) ∧ ys.length < sizeLine ∧ ∃ m', m' < xs.length - i ∧ (m' = xs.length - (i + 1) ∧ i + 1 ≤ xs.length ∧ ok σ3 ∧ Same H1 (upd H5 D (.lst (ys ++ [v]))) ∧ (upd H5 D (.lst (ys ++ [v]))) D = some (.lst (((us.take (i + 1)).filter p).map f)))
      else ∃ m', m' < xs.length - i ∧ (m' = xs.length - (i + 1) ∧ i + 1 ≤ xs.length ∧ ok σ3 ∧ Same H1 H5 ∧ H5 D = some (.lst (((us.take (i + 1)).filter p).map f)))) hx hu hok hsm fun σ3 H4 s4 ok3 => ?_
    cases hp : p us[i] with
    | true =>
      rw [if_pos rfl]
      refine ⟨_, s4 _ _ hy, sml, xs.length - (i + 1), by omega, rfl, hlt, ok3, (hsm.trans s4).upd hD, ?_⟩
      rw [upd_same, tk, List.filter_append, List.map_append]
      simp [hp]
    | false =>
      rw [if_neg Bool.false_ne_true]; refine ⟨xs.length - (i + 1), by omega, rfl, hlt, ok3, hsm.trans s4, ?_⟩
      rw [tk, List.filter_append, List.map_append, s4 _ _ hy]
      simp [hp]
  · have e : i = xs.length := by omega
    subst e
    refine .inl ⟨⟨xs, sq', Nat.le_refl _⟩, hd H' hsm (by rw [← hlen, List.take_length] at hy; exact hy)⟩
theorem boot_sorted : bootBuiltins "sorted" = Option.some (Value.builtin "sorted") := by decide +kernel
end L2
set_option maxRecDepth 100000
set_option maxHeartbeats 1600000
namespace L2
open PySem PySem.Spec PyProof.Rows LS
theorem hu64 {A : Around} {k : Nat} (hr : Room k A) : A.units + 64 < cLine := hr.units
theorem call_listK {X : Cx} (K : PySem.W.Frag) (hK : X.K = K := by rfl) : CallR X (.type "list") (fun xs H Q => ∃ p ys, xs = [.ref p] ∧ SqL K H p ys ∧ ∀ l, H l = none → Q (.ref l) (upd H l (.lst ys))) := by
  subst hK
  intro pins s σ H xs us Q I r h
  obtain ⟨p, ys, e, hq, q⟩ := h
  exact call_list_of pins s σ H xs us Q I r ⟨p, ys, e, .inl hq, q⟩
theorem comp_tpm {K : PySem.W.Frag} {a D : Addr} {xs : List V} {g : TG} {te : TE} {σ0 : St} {H1 : Hp} {Q : Hp → Prop} (f : V → V) (ok : St → Prop)
    (sq : H1 a = some (.tup xs)) (hD : H1 D = none) (hz : xs.length ≤ 1000) (h0 : ok σ0)
    (hs : ∀ x σ' H (N : St → V → Hp → Prop), x ∈ xs → ok σ' → Same H1 H → (∀ σ3 H4, Same H H4 → ok σ3 → N σ3 (f x) H4) → g x σ' H fun σ3 H3 => te σ3 H3 fun v H4 => N σ3 v H4)
    (hd : ∀ H', Same H1 H' → H' D = some (.lst (xs.map f)) → Q H') :
    ∃ W : Nat → Nat → St → Hp → Prop, (∃ m, W 0 m σ0 (upd H1 D (.lst []))) ∧
      ∀ i m σ' H', W i m σ' H' → ((Itt K a).stop i H' ∧ Q H') ∨ ((Itt K a).go i H' ∧ ∀ x H2, (Itt K a).yld i H' x H2 → g x σ' H2 fun σ3 H3 => te σ3 H3 fun v H4 => ∃ xs, H4 D = some (.lst xs) ∧ xs.length < sizeLine ∧ ∃ m', m' < m ∧ W (i + 1) m' σ3 (upd H4 D (.lst (xs ++ [v])))) := by
  refine ⟨fun i m σ' H' => m = xs.length - i ∧ i ≤ xs.length ∧ ok σ' ∧ Same H1 H' ∧ H' D = some (.lst ((xs.take i).map f)), ⟨xs.length, by simp, Nat.zero_le _, h0, Same.new hD, by rw [List.take_zero]; exact upd_same⟩, ?_⟩
  rintro i m σ' H' ⟨rfl, hi, hok, hsm, hy⟩
  have sq' : SqT K H' a xs := SqT.of (hsm _ _ sq)
  by_cases hlt : i < xs.length
  · refine .inr ⟨⟨xs, xs[i], sq', by simp [hlt]⟩, fun x H2 y => ?_⟩
    obtain ⟨e, y⟩ := y
    subst e
    have hx := y xs sq'
    refine hs x σ' _ (fun σ3 v H4 => ∃ xs', H4 D = some (.lst xs') ∧ xs'.length < sizeLine ∧ ∃ m', m' < xs.length - i ∧ _) (List.mem_of_getElem? hx) hok hsm fun σ3 H4 s4 ok3 => ?_
    refine ⟨_, s4 _ _ hy, Nat.lt_of_lt_of_le (show _ < 1001 by rw [List.length_map, List.length_take]; omega) (by decide), xs.length - (i + 1), by omega, rfl, hlt, ok3, (hsm.trans s4).upd hD, ?_⟩
    rw [upd_same, List.take_add_one, hx, List.map_append]; rfl
  · have e : i = xs.length := by omega
    subst e
    exact .inl ⟨⟨xs, sq', Nat.le_refl _⟩, hd H' hsm (by rw [List.take_length] at hy; exact hy)⟩
end L2
set_option maxRecDepth 100000
set_option maxHeartbeats 1600000
namespace L2
open PySem PySem.Spec PyProof.Rows LS
section
variable {X : Cx} {tg : Expr}
end
end L2
set_option maxRecDepth 100000
set_option maxHeartbeats 1600000
namespace L2
open PySem PySem.Spec PyProof.Rows LS
structure Five (z a b c d : Addr) : Prop where
  az : a ≠ z
  bz : b ≠ z
  cz : c ≠ z
  dz : d ≠ z
  ab : a ≠ b
  ac : a ≠ c
  ad : a ≠ d
  bc : b ≠ c
  bd : b ≠ d
  cd : c ≠ d
end L2
set_option maxRecDepth 100000
set_option maxHeartbeats 1600000
namespace L2
open PySem PySem.Spec PyProof.Rows LS
end L2
set_option maxRecDepth 100000
set_option maxHeartbeats 1600000
namespace L2
open PySem PySem.Spec PyProof.Rows LS PySem.SeqAt
mutual
inductive IsD8 (K : PySem.W.Frag) (H : Hp) : V → PyData → Prop
  | non : IsD8 K H .non .none
  | bl (b) : IsD8 K H (.bl b) (.bool b)
  | int (i) : IsD8 K H (.int i) (.int i)
  | str (x) : IsD8 K H (.str x) (.str x)
  | lst {a xs ds} : SqL K H a xs → AreD8 K H xs ds → IsD8 K H (.ref a) (.list ds)
  | tup {a xs ds} : SqT K H a xs → AreD8 K H xs ds → IsD8 K H (.ref a) (.tuple ds)
inductive AreD8 (K : PySem.W.Frag) (H : Hp) : List V → List PyData → Prop
  | nil : AreD8 K H [] []
  | cons {x xs d ds} : IsD8 K H x d → AreD8 K H xs ds → AreD8 K H (x :: xs) (d :: ds)
end
section
variable {X : Cx} {pins : List (Addr × Obj)} {σ : St} {H : Hp} {s : Shared}
end
end L2
set_option maxRecDepth 100000
set_option maxHeartbeats 1600000
namespace L2
open PySem PySem.Spec PyProof.Rows LS PySem.SeqAt
mutual
inductive Al (K : PySem.W.Frag) (H : Hp) : Nat → V → V → Prop
  | non {n} : Al K H n .non .non
  | bl {n} (b) : Al K H n (.bl b) (.bl b)
  | int {n} (i) : Al K H n (.int i) (.int i)
  | str {n} (x) : Al K H n (.str x) (.str x)
  | ref {n} (a) : Al K H n (.ref a) (.ref a)
  | lst {n a b xs ys} : SqL K H a xs → SqL K H b ys → Als K H n xs ys → Al K H (n + 1) (.ref a) (.ref b)
inductive Als (K : PySem.W.Frag) (H : Hp) : Nat → List V → List V → Prop
  | nil {n} : Als K H n [] []
  | cons {n x y xs ys} : Al K H n x y → Als K H n xs ys → Als K H n (x :: xs) (y :: ys)
end
theorem Als.length {K : PySem.W.Frag} {H : Hp} {n : Nat} : ∀ {xs ys : List V}, Als K H n xs ys → xs.length = ys.length
  | _, _, .nil => rfl
  | _, _, .cons _ t => by simp [Als.length t]
section
variable {X : Cx} {pins : List (Addr × Obj)} {σ : St} {H : Hp} {s : Shared}
end
end L2
set_option maxRecDepth 100000
set_option maxHeartbeats 1600000
namespace L2
open PySem PySem.Spec PyProof.Rows LS
theorem pb_if {X : Cx} {c : Expr} {a b : List Stmt} {pos : Pos} {tc : TT} {ta tb : XK → TS} (hc : PT X.nox c tc) (ha : PB X a ta) (hb : PB X b tb) : PB X [.If c a b pos] (fun E => tIfS tc (ta E) (tb E)) := by
  intro pins s σ H D E I h
  refine wpAny_execs_cons (wpAny_mono (Q := SP X pins D) (E := XP X pins σ E) (wpAny_If ?_) (fun f s1 q => ?_) fun _ _ z => z)
  · refine wpAny_mono (hc pins s σ H _ (I.wish _) h) (fun d s1 ⟨H1, I1, q1⟩ => ?_) fun _ _ z => False.elim z
    cases d with
    | true => exact ha pins s1 σ H1 D E I1.unwish q1
    | false => exact hb pins s1 σ H1 D E I1.unwish q1
  · cases f with
    | next => exact wpAny_execs_nil q
    | ret v => exact q
    | brk => exact q
    | cont => exact q
theorem px_meth {X : Cx} {k : Nat} {f C : Addr} {fd : FuncData} {ps : List Str} {sp : Sp} {dvs : List V} {ds : List Value} {m : Str} {pos apos : Pos} {e o : Expr} {es : List Expr} {ta : TE} {t : TA} {pl : Sem Bool} (hx : X.ex = []) (he : ∀ E, PE (X.wish E) o ta) (c : Cls X.K C) (hm : Meth X.K C m f) (F : FnOk X.prog X.w X.K X.mg X.base (CXE X.prog X.w) k f fd ps sp) (hr : Room k X.A) (hb : Binds X.K fd ps ds) (hd : Vals dvs ds) (ha : ∀ E, PA (X.wish E) (e :: es) t)
    (hst : starEach (e :: es) X.env = (false, eval e X.env) :: starEach es X.env := by rfl) (hpl : (backTo pos (starEach es X.env)).any (·.1) = false := by rfl)
    (ht : eval (.Call (.Attribute o m apos) (e :: es) [] pos) X.env = (eval o X.env >>= fun ov => standAt apos.atName >>= fun _ => holding [ov] (getMethod ov m pl) >>= fun r => callWith pos r.1 r.2 (backTo pos (starEach (e :: es) X.env)) (backToKw pos (keywordEach [] X.env))) := by rfl) :
    PX X (.Call (.Attribute o m apos) (e :: es) [] pos) (fun E => tMeth C m sp dvs E ta t) := by
  intro pins s σ H Q E I h
  refine PySem.W.methodCall_KW (pl := pl) (thn (he (XP X pins σ E) pins s σ H _ (I.wish _) h) fun u s1 ⟨x, H1, I1, rx, a, dx, fs, ex, ea, l, q⟩ => ?_) ht
  subst ex
  obtain rfl : u = Value.ref a := rx
  refine getmeth_ok I1.unwish ea c hm l ?_
  refine PySem.W.callWith_K (first := [.ref a]) (h₀ := X.base) I.ok.mod.kin hm.kp (thn (ha (XP X pins σ E) pos pins s1 σ H1 _ I1 q) fun us s2 ⟨vs, H2, I2, r, q2⟩ => ⟨I2.unwish.kIn, ?_⟩) hst hpl
  exact run_fnX (us := .ref a :: us) (vs := .ref a :: vs) hx F hr hb hd I2.unwish (.cons rfl r) q2
def tTryN (K : PySem.W.Frag) (c : Value) (tb : XK → TS) (ts : TS) : TS := fun D σ H => tb (fun cls dx H' => PySem.W.exmOne K cls c = some true ∧ ∀ ea, H' ea = none → ts D σ (upd H' ea (excAt ea cls dx))) D σ H
theorem ps_tryN {X : Cx} {body : List Stmt} {tb : XK → TS} {ts : TS} {cn : Str} {C : Addr} {b0 : Stmt} {suite : List Stmt} {np hpos pos : Pos} (K : PySem.W.Frag) (hx : X.ex = []) (hst : X.stack = X.env :: X.outer) (hfr : X.env.frame = some X.env.locals) (hb : PB X body tb)
    (hg : Gl X cn) (hm : X.mg cn = some (.ref C)) (hs : ∀ ea, PSs (X.hand ea) (b0 :: suite) ts) (hK : X.K = K := by rfl) (hdb : (cn == ("__debug__" : Str)) = false := by decide) :
    PS X (.Try body [.ExceptHandler (some (.Name cn np)) none (b0 :: suite) hpos] [] [] pos) (tTryN K (.ref C) tb ts) := by
  subst hK
  intro pins s σ H D I h
  refine wpAny_Try_except (wpAny_mono (hb pins s σ H D _ I h) (fun fl s1 q => ?_) fun ev s1 z => ?_)
  · cases fl with
    | next =>
      obtain ⟨σ', H', I', q⟩ := q
      exact wpAny_execs_nil ⟨σ', H', I', q⟩
    | ret v => exact q
    | brk => exact q
    | cont => exact q
  obtain ⟨ea, T, cls, dx, H1, rfl, I1, a1, a2, fly, hcl, hsu⟩ := z
  have stk : ∀ {s : Shared} {σ : St} {H : Hp}, Inv X pins σ H s → s.heap.FunFrames X.base (X.env :: X.outer) := fun {s σ H} I => by have := I.stack; rw [hst] at this; exact this
  have two : ∀ {T : Addr}, Apart X pins H1 T → ∀ b ∈ [ea, T], Apart X pins H1 b := fun {T} aT b hb => by
    rcases List.mem_cons.mp hb with e | hb
    · subst e; exact a1
    · rw [List.mem_singleton] at hb; subst hb; exact aT
  refine look_on (base := X.base) (outer := X.outer) (by rw [I1.ok.frames, hst]) (stk I1) hfr fly fun h2 T2 fly2 nT2 mv2 => ?_
  rw [← hst] at mv2
  have I2 := I1.moved' mv2 (two a2)
  have aT2 : Apart X pins H1 T2 := I1.apart hx nT2
  obtain ⟨oe, vs, oT, tvs, a0, e1, e2, e3, e4, _⟩ := id fly2
  have LT : PySem.W.Looks (model X.prog X.w) ({ s1 with heap := h2 } : Shared).heap (typeOf (.ref ea)) cls := by
    subst e2
    exact (PySem.W.Looks.ld e1).andThen .now
  refine wpAny_handleBy_cons (codeAny_handlers_test ?_) (by intro q; cases q)
  refine ld_glob (X := X.hand ea) (I2.hand ea) hg hm ?_ hdb
  refine (PySem.W.exm_one I2.kIn LT hcl).here ?_
  refine codeAny_handlers_suite ?_
  refine flight_off (s := { s1 with heap := h2 }) fly2 fun h3 fly3 same => ?_
  have I3 := I2.moved' (Moved.one same) fun b hb => by rw [List.mem_singleton] at hb; rw [hb]; exact aT2
  obtain ⟨oe3, vs3, _, _, _, f1, f2, f3, f4, _⟩ := id fly3
  have I4 := I3.track a1 ⟨oe3, vs3, f1, f2, f3, f4⟩
  refine wpAny_mono (hs ea pins _ _ _ D (I4.hand ea) (hsu ea a1.trk)) (fun fl s6 q => ?_) fun _ _ z => z.elim
  have okX := I.ok
  cases fl with
  | next => obtain ⟨σ', H', I', q⟩ := q; exact ⟨σ', H', I'.unhand okX, q⟩
  | brk => obtain ⟨σ', H', I', q⟩ := q; exact ⟨σ', H', I'.unhand okX, q⟩
  | cont => obtain ⟨σ', H', I', q⟩ := q; exact ⟨σ', H', I'.unhand okX, q⟩
  | ret u => obtain ⟨v, σ', H', I', r, q⟩ := q; exact ⟨v, σ', H', I'.unhand okX, r, q⟩
theorem call_minV {X : Cx} (K : PySem.W.Frag) (hc : X.calm = true) (hK : X.K = K := by rfl) : CallKR X (.builtin "min") ["default"] (fun xs zs H Q => ∃ (p : Addr) (ns : List Int) (d : V), xs = [.ref p] ∧ zs = [d] ∧ SqL K H p (ns.map V.int) ∧ (ns = [] → Q d H) ∧ ∀ m, ns ≠ [] → m ∈ ns → (∀ a ∈ ns, m ≤ a) → Q (.int m) H) := by
  subst hK
  intro pins s σ H xs zs us ws Q I r rz h
  obtain ⟨p, ns, d, rfl, rfl, hq, q0, q⟩ := h
  obtain ⟨u, rfl, rfl⟩ := vals1 r
  obtain ⟨w', rfl, rw'⟩ := vals1 rz
  obtain ⟨its, rv, pl, hz⟩ := I.list hq
  refine min_def (d := w') rv (I.ok.hd hc) pl.isList fun v h' tk g1 g2 g3 => ?_
  by_cases e : ns = []
  · rw [g1 e]
    exact ⟨d, H, I.kept (t' := tk) g3, rw', q0 e⟩
  · obtain ⟨m, t2, e1, e2, e3⟩ := g2 e
    rw [e1]
    exact ⟨.int m, H, I.kept (t' := tk) g3, ⟨t2, rfl⟩, q m e e2 e3⟩
end L2
set_option maxRecDepth 100000
set_option maxHeartbeats 1600000
namespace L2
open PySem PySem.Spec PyProof.Rows LS PySem.SeqAt
section
variable {X : Cx}
theorem call_anyB (K : PySem.W.Frag) (hc : X.calm = true) (hK : X.K = K := by rfl) : CallR X (.builtin "any") (fun xs H Q => ∃ (p : Addr) (bs : List Bool), xs = [.ref p] ∧ SqL K H p (bs.map V.bl) ∧ Q (.bl (bs.any id)) H) := by
  subst hK
  intro pins s σ H xs us Q I r h
  obtain ⟨p, bs, rfl, hq, q⟩ := h
  obtain ⟨u, rfl, rfl⟩ := vals1 r
  obtain ⟨its, rv, pl, hz⟩ := I.list hq
  have nth : ∀ (i : Nat) (v : Value), its.toArray[i]? = some v → v = Value.bool (bs.getD i true) := fun i v e => by
    have e : its[i]? = some v := by simpa using e
    have hi : i < bs.length := by
      have := (List.getElem?_eq_some_iff.mp e).1
      have h2 := rv.length
      simp at h2
      omega
    obtain ⟨u, e2, r2⟩ := rv.get (i := i) (x := V.bl bs[i]) (by simp [hi])
    rw [e] at e2
    cases e2
    cases r2
    rw [List.getD_eq_getElem?_getD, List.getElem?_eq_getElem hi]
    rfl
  refine call_any_walk (wpAny_pyIter_list pl.isList ?_)
  have hne : p ≠ s.heap.objs.size := by
    obtain ⟨o, e, _⟩ := pl.isList
    exact Nat.ne_of_lt (Heap.lt_size e)
  refine ⟨s.heap.objs.size, _, _, _, _, _, fun i => bs.getD i true, rfl, Walks.list (A := X.A.in1) (I.ok.hd hc) s.heap.objs.size p hne its.toArray, ⟨?_, ?_⟩, ?_, ?_⟩
  · exact ⟨_, Heap.get?_push_size _ rfl, rfl, rfl⟩
  · obtain ⟨o, e, r⟩ := pl.isList
    exact ⟨o, Heap.get?_push_of_some _ e, r⟩
  · intro i v s1 Q1 E1 hP hQ
    rw [nth i v hP]
    exact wpAny_truthy_bool hQ
  · intro h' tk hk
    refine ⟨.bl _, H, I.kept (t' := tk) (h' := h') fun b o e => hk b o (fun z => ?_) (Heap.get?_push_of_some _ e), rfl, ?_⟩
    · rw [List.mem_singleton] at z
      rw [z] at e
      exact absurd (Heap.lt_size e) (Nat.lt_irrefl _)
    · have hl : its.toArray.size = bs.length := by have := rv.length; simp at this ⊢; omega
      rw [hl]
      have : ((List.range bs.length).any fun i => bs.getD i true) = bs.any id := by
        clear q rv nth hl hq hz
        induction bs with
        | nil => rfl
        | cons b bs ih => rw [List.length_cons, List.range_succ_eq_map, List.any_cons, List.any_map, List.any_cons, ← ih]; rfl
      rw [this]; exact q
theorem boot_any : bootBuiltins "any" = Option.some (Value.builtin "any") := PyProof.Rows.boot_any
theorem op_neE (K : PySem.W.Frag) (hu : X.A.units + 64 < cLine) (hK : X.K = K := by rfl) : OpR X (compareOp .NotEq) (fun x y H Q => ∃ (a b : Addr) (xs : List V), x = .ref a ∧ y = .ref b ∧ SqL K H a xs ∧ SqL K H b [] ∧ Q (.bl (!xs.isEmpty)) H) := by
  subst hK
  intro pins s σ H x y v u Q I rx ry h
  obtain ⟨a, b, xs, rfl, rfl, ha, hb, q⟩ := h
  cases rx
  cases ry
  have hu : X.A.units < cLine := Nat.lt_of_le_of_lt (Nat.le_add_right _ _) hu
  obtain ⟨its, r1, p1, _⟩ := I.list ha
  obtain ⟨jts, r2, p2, _⟩ := I.list hb
  cases r2
  cases xs with
  | nil =>
    cases r1
    have := RcNeAt.lists (A := X.A) (s := s) (e := fun _ => true) p1.isList p2.isList rfl hu fun j h1 h2 => by simp at h1
    exact this X.prog X.w X.xe _ ⟨.bl false, H, I, rfl, q⟩
  | cons x xs =>
    have l := r1.length
    have := RcNeAt.lists_lengths (A := X.A) (s := s) p1.isList p2.isList (by simp at l ⊢; intro z; simp [z] at l) hu
    exact this X.prog X.w X.xe _ ⟨.bl true, H, I, rfl, q⟩
end
theorem comp_pr {α : Type} {K : PySem.W.Frag} {a D : Addr} {xs : List V} {us : List α} {g : TG} {te : TE} {σ0 : St} {H1 : Hp} {Q : Hp → Prop} (f : α → V) (ok : St → Prop)
    (sq : SqL K H1 a xs) (hD : H1 D = none) (hz : xs.length ≤ 1000) (hlen : us.length = xs.length) (h0 : ok σ0)
    (hs : ∀ (i : Nat) x u σ' H (N : St → V → Hp → Prop), xs[i]? = some x → us[i]? = some u → ok σ' → Same H1 H → (∀ σ3 H4, Same H H4 → ok σ3 → N σ3 (f u) H4) → g x σ' H fun σ3 H3 => te σ3 H3 fun v H4 => N σ3 v H4)
    (hd : ∀ H', Same H1 H' → H' D = some (.lst (us.map f)) → Q H') :
    ∃ W : Nat → Nat → St → Hp → Prop, (∃ m, W 0 m σ0 (upd H1 D (.lst []))) ∧
      ∀ i m σ' H', W i m σ' H' → ((Itl K a).stop i H' ∧ Q H') ∨ ((Itl K a).go i H' ∧ ∀ x H2, (Itl K a).yld i H' x H2 → g x σ' H2 fun σ3 H3 => te σ3 H3 fun v H4 => ∃ xs, H4 D = some (.lst xs) ∧ xs.length < sizeLine ∧ ∃ m', m' < m ∧ W (i + 1) m' σ3 (upd H4 D (.lst (xs ++ [v])))) := by
  refine ⟨fun i m σ' H' => m = xs.length - i ∧ i ≤ xs.length ∧ ok σ' ∧ Same H1 H' ∧ H' D = some (.lst ((us.take i).map f)), ⟨xs.length, by simp, Nat.zero_le _, h0, Same.new hD, by rw [List.take_zero]; exact upd_same⟩, ?_⟩
  rintro i m σ' H' ⟨rfl, hi, hok, hsm, hy⟩
  have sq' := hsm.seq sq
  by_cases hlt : i < xs.length
  · refine .inr ⟨⟨xs, xs[i], sq', by simp [hlt]⟩, fun x H2 y => ?_⟩
    obtain ⟨e, y⟩ := y
    subst e
    have hx := y xs sq'
    have hu : us[i]? = some us[i] := List.getElem?_eq_getElem (by omega)
    have tk : us.take (i + 1) = us.take i ++ [us[i]] := by rw [List.take_add_one, hu]; rfl
    have sml : ((us.take i).map f).length < sizeLine := by
      rw [List.length_map, List.length_take]
      exact Nat.lt_of_lt_of_le (show _ < 1001 by omega) (by decide)
    refine hs i x us[i] σ' _ (fun σ3 v H4 => ∃ ys, H4 D = some (.lst ys) ∧ ys.length < sizeLine ∧ ∃ m', m' < xs.length - i ∧ (m' = xs.length - (i + 1) ∧ i + 1 ≤ xs.length ∧ ok σ3 ∧ Same H1 (upd H4 D (.lst (ys ++ [v]))) ∧ (upd H4 D (.lst (ys ++ [v]))) D = some (.lst ((us.take (i + 1)).map f)))) hx hu hok hsm fun σ3 H4 s4 ok3 => ?_
    refine ⟨_, s4 _ _ hy, sml, xs.length - (i + 1), by omega, rfl, hlt, ok3, (hsm.trans s4).upd hD, ?_⟩
    rw [upd_same, tk, List.map_append]
    rfl
  · have e : i = xs.length := by omega
    subst e
    refine .inl ⟨⟨xs, sq', Nat.le_refl _⟩, hd H' hsm (by rw [← hlen, List.take_length] at hy; exact hy)⟩
def hide (H : Hp) (D : Addr) : Hp := fun b => if b = D then none else H b
theorem hide_ne {H : Hp} {b D : Addr} (h : b ≠ D) : hide H D b = H b := by unfold hide; rw [if_neg h]
theorem hide_upd {H : Hp} {D : Addr} {o : HO} : hide (upd H D o) D = hide H D := by
  funext b; unfold hide
  by_cases h : b = D
  · rw [if_pos h, if_pos h]
  · rw [if_neg h, if_neg h, upd_ne h]
theorem hide_same {H : Hp} {D : Addr} : Same (hide H D) H := fun b o e => by
  unfold hide at e
  by_cases h : b = D
  · rw [if_pos h] at e; cases e
  · rw [if_neg h] at e; exact e
theorem hide_mono {H H' : Hp} {D : Addr} (s : Same H H') : Same (hide H D) (hide H' D) := fun b o e => by
  unfold hide at e ⊢
  by_cases h : b = D
  · rw [if_pos h] at e; cases e
  · rw [if_neg h] at e ⊢; exact s b o e
theorem comp_ob {α : Type} {K : PySem.W.Frag} {a D : Addr} {xs : List V} {us : List α} {g : TG} {te : TE} {σ0 : St} {H1 : Hp} {Q : Hp → Prop} (R : α → V → Hp → Prop) (ok : St → Prop) (mono : ∀ H H' x v, Same H H' → R x v H → R x v H')
    (sq : SqL K H1 a xs) (hD : H1 D = none) (hz : xs.length ≤ 1000) (hlen : us.length = xs.length) (h0 : ok σ0)
    (hs : ∀ (i : Nat) x u σ' H (N : St → V → Hp → Prop), xs[i]? = some x → us[i]? = some u → ok σ' → Same H1 H → (∃ ys, H D = some (.lst ys)) → (∀ σ3 v H4, R u v (hide H4 D) → Same H H4 → ok σ3 → N σ3 v H4) → g x σ' H fun σ3 H3 => te σ3 H3 fun v H4 => N σ3 v H4)
    (hd : ∀ ys H', Same H1 H' → H' D = some (.lst ys) → Paired (fun v u => R u v H') ys us → Q H') :
    ∃ W : Nat → Nat → St → Hp → Prop, (∃ m, W 0 m σ0 (upd H1 D (.lst []))) ∧
      ∀ i m σ' H', W i m σ' H' → ((Itl K a).stop i H' ∧ Q H') ∨ ((Itl K a).go i H' ∧ ∀ x H2, (Itl K a).yld i H' x H2 → g x σ' H2 fun σ3 H3 => te σ3 H3 fun v H4 => ∃ xs, H4 D = some (.lst xs) ∧ xs.length < sizeLine ∧ ∃ m', m' < m ∧ W (i + 1) m' σ3 (upd H4 D (.lst (xs ++ [v])))) := by
  refine ⟨fun i m σ' H' => m = xs.length - i ∧ i ≤ xs.length ∧ ok σ' ∧ Same H1 H' ∧ ∃ ys, H' D = some (.lst ys) ∧ Paired (fun v u => R u v (hide H' D)) ys (us.take i), ⟨xs.length, by simp, Nat.zero_le _, h0, Same.new hD, [], upd_same, by rw [List.take_zero]; exact .nil⟩, ?_⟩
  rintro i m σ' H' ⟨rfl, hi, hok, hsm, ys, hy, hp⟩
  have sq' := hsm.seq sq
  have hyl : ys.length = i := by rw [Paired.length hp, List.length_take]; omega
  by_cases hlt : i < xs.length
  · refine .inr ⟨⟨xs, xs[i], sq', by simp [hlt]⟩, fun x H2 y => ?_⟩
    obtain ⟨e, y⟩ := y
    subst e
    have hx := y xs sq'
    have hu : us[i]? = some us[i] := List.getElem?_eq_getElem (by omega)
    refine hs i x us[i] σ' _ (fun σ3 v H4 => ∃ xs', H4 D = some (.lst xs') ∧ xs'.length < sizeLine ∧ ∃ m', m' < xs.length - i ∧ _) hx hu hok hsm ⟨_, hy⟩ fun σ3 v H4 r s4 ok3 => ?_
    refine ⟨ys, s4 _ _ hy, Nat.lt_of_lt_of_le (show ys.length < 1001 by omega) (by decide), xs.length - (i + 1), by omega, rfl, hlt, ok3, (hsm.trans s4).upd hD, ys ++ [v], upd_same, ?_⟩
    rw [List.take_add_one, hu, hide_upd]
    exact Paired.snoc (Paired.mapP hp fun b w q => mono _ _ _ _ (hide_mono s4) q) r
  · have e : i = xs.length := by omega
    subst e
    rw [← hlen, List.take_length] at hp
    exact .inl ⟨⟨xs, sq', Nat.le_refl _⟩, hd ys H' hsm hy (Paired.mapP hp fun b w q => mono _ _ _ _ hide_same q)⟩
end L2
set_option maxRecDepth 100000
set_option maxHeartbeats 1600000
namespace L2
open PySem PySem.Spec PyProof.Rows LS
theorem hu1 {A : Around} {k : Nat} (hr : Room k A) : A.units + 1 < cLine := Nat.lt_of_le_of_lt (Nat.add_le_add_left (by decide) _) hr.units
theorem for_no {J : It} {g : TG} {tb : TS} {D : Ends} {σ : St} {H : Hp} (hs : J.stop 0 H) (hd : D.nx σ H) :
    ∃ W : Nat → Nat → St → Hp → Prop, (∃ m, W 0 m σ H) ∧ ∀ i m σ H, W i m σ H →
      (J.stop i H ∧ D.nx σ H) ∨ (J.go i H ∧ ∃ N : St → Hp → Prop, (∀ σ' H', N σ' H' → ∃ m', m' < m ∧ W (i + 1) m' σ' H') ∧ ∀ x H', J.yld i H x H' → g x σ H' fun σ2 H2 => tb { D with nx := N, ct := N, bk := D.nx } σ2 H2) := by
  refine ⟨fun i _ σ' H' => i = 0 ∧ σ' = σ ∧ H' = H, ⟨0, rfl, rfl, rfl⟩, ?_⟩
  rintro i m σ' H' ⟨rfl, rfl, rfl⟩
  exact .inl ⟨hs, hd⟩
end L2
set_option maxRecDepth 100000
set_option maxHeartbeats 4000000
namespace My
open PySem L2
def top (i : Nat) : Stmt := PySem.Challenge.pw_lampcues_k41_numbers_come_to.main.body.getD i (.Pass ⟨0, 0, 0, 0⟩)
abbrev s_is_whole : Stmt := (top 15)
abbrev s_is_time : Stmt := (top 18)
abbrev s_is_cue_number : Stmt := (top 32)
abbrev s_has_slots_as_keys : Stmt := (top 33)
abbrev s_Part_init : Stmt := (inClass (top 34) 0)
abbrev s_Part_told_slots : Stmt := (inClass (top 34) 1)
abbrev s_is_part_list : Stmt := (top 35)
abbrev s_Cue_init : Stmt := (inClass (top 36) 0)
abbrev s_cue_list : Stmt := (top 37)
abbrev s_checked : Stmt := (top 39)
abbrev s_above : Stmt := (top 43)
abbrev s_below : Stmt := (top 44)
abbrev s_cue_at : Stmt := (top 45)
abbrev s_Walk_init : Stmt := (inClass (top 47) 0)
abbrev s_Walk_clock_top : Stmt := (inClass (top 47) 1)
abbrev s_Walk_note : Stmt := (inClass (top 47) 2)
abbrev s_Walk_arrive : Stmt := (inClass (top 47) 4)
abbrev s_Walk_come_to : Stmt := (inClass (top 47) 3)
abbrev s_Walk_on : Stmt := (inClass (top 47) 9)
abbrev s_has_cue : Stmt := (top 48)
abbrev s_Walk_goto : Stmt := (inClass (top 47) 6)
abbrev s_Walk_go : Stmt := (inClass (top 47) 5)
abbrev s_Walk_back : Stmt := (inClass (top 47) 7)
abbrev s_Walk_change : Stmt := (inClass (top 47) 10)
abbrev s_put_in : Stmt := (top 40)
abbrev s_carried : Stmt := (top 41)
abbrev s_shown : Stmt := (top 42)
abbrev s_forked : Stmt := (top 49)
abbrev s_Step_init : Stmt := (inClass (top 52) 0)
abbrev s_steps_of : Stmt := (top 53)
abbrev s_tell_rows : Stmt := (top 55)
abbrev s_Run_init : Stmt := (inClass (top 58) 0)
abbrev s_Run_walked_to : Stmt := (inClass (top 58) 10)
abbrev s_Run_take : Stmt := (inClass (top 58) 12)
abbrev s_refuse_undone : Stmt := (top 59)
abbrev s_Run_go : Stmt := (inClass (top 58) 1)
abbrev s_Run_back : Stmt := (inClass (top 58) 2)
abbrev s_Run_goto : Stmt := (inClass (top 58) 3)
abbrev s_Run_change : Stmt := (inClass (top 58) 6)
abbrev s_Run_number_at : Stmt := (inClass (top 58) 8)
abbrev s_law_cell_at : Stmt := (top 62)
abbrev s_law_whole : Stmt := (top 63)
abbrev s_law_draw : Stmt := (top 64)
abbrev s_law_rest : Stmt := (top 65)
abbrev s_law_numbers : Stmt := (top 66)
abbrev s_law_cues : Stmt := (top 67)
abbrev s_law_goal : Stmt := (top 68)
abbrev s_law_deed : Stmt := (top 69)
abbrev s_law_stands : Stmt := (top 70)
abbrev s_law : Stmt := (top 71)
structure Adr where
  f_is_whole : Addr
  d_is_whole : FuncData
  f_is_time : Addr
  d_is_time : FuncData
  f_is_cue_number : Addr
  d_is_cue_number : FuncData
  f_has_slots_as_keys : Addr
  d_has_slots_as_keys : FuncData
  f_Part_init : Addr
  d_Part_init : FuncData
  T_Part_init : Addr
  D_Part_init : List Value
  f_Part_told_slots : Addr
  d_Part_told_slots : FuncData
  f_is_part_list : Addr
  d_is_part_list : FuncData
  f_Cue_init : Addr
  d_Cue_init : FuncData
  T_Cue_init : Addr
  D_Cue_init : List Value
  f_cue_list : Addr
  d_cue_list : FuncData
  f_checked : Addr
  d_checked : FuncData
  f_above : Addr
  d_above : FuncData
  f_below : Addr
  d_below : FuncData
  f_cue_at : Addr
  d_cue_at : FuncData
  f_Walk_init : Addr
  d_Walk_init : FuncData
  f_Walk_clock_top : Addr
  d_Walk_clock_top : FuncData
  T_Walk_clock_top : Addr
  D_Walk_clock_top : List Value
  f_Walk_note : Addr
  d_Walk_note : FuncData
  f_Walk_arrive : Addr
  d_Walk_arrive : FuncData
  f_Walk_come_to : Addr
  d_Walk_come_to : FuncData
  T_Walk_come_to : Addr
  D_Walk_come_to : List Value
  f_Walk_on : Addr
  d_Walk_on : FuncData
  f_has_cue : Addr
  d_has_cue : FuncData
  f_Walk_goto : Addr
  d_Walk_goto : FuncData
  f_Walk_go : Addr
  d_Walk_go : FuncData
  f_Walk_back : Addr
  d_Walk_back : FuncData
  f_Walk_change : Addr
  d_Walk_change : FuncData
  f_put_in : Addr
  d_put_in : FuncData
  f_carried : Addr
  d_carried : FuncData
  f_shown : Addr
  d_shown : FuncData
  f_forked : Addr
  d_forked : FuncData
  f_Step_init : Addr
  d_Step_init : FuncData
  f_steps_of : Addr
  d_steps_of : FuncData
  f_tell_rows : Addr
  d_tell_rows : FuncData
  f_Run_init : Addr
  d_Run_init : FuncData
  f_Run_walked_to : Addr
  d_Run_walked_to : FuncData
  T_Run_walked_to : Addr
  D_Run_walked_to : List Value
  f_Run_take : Addr
  d_Run_take : FuncData
  f_refuse_undone : Addr
  d_refuse_undone : FuncData
  f_Run_go : Addr
  d_Run_go : FuncData
  f_Run_back : Addr
  d_Run_back : FuncData
  f_Run_goto : Addr
  d_Run_goto : FuncData
  f_Run_change : Addr
  d_Run_change : FuncData
  f_Run_number_at : Addr
  d_Run_number_at : FuncData
  T_Run_number_at : Addr
  D_Run_number_at : List Value
  f_law_cell_at : Addr
  d_law_cell_at : FuncData
  f_law_whole : Addr
  d_law_whole : FuncData
  f_law_draw : Addr
  d_law_draw : FuncData
  f_law_rest : Addr
  d_law_rest : FuncData
  f_law_numbers : Addr
  d_law_numbers : FuncData
  f_law_cues : Addr
  d_law_cues : FuncData
  f_law_goal : Addr
  d_law_goal : FuncData
  f_law_deed : Addr
  d_law_deed : FuncData
  f_law_stands : Addr
  d_law_stands : FuncData
  f_law : Addr
  d_law : FuncData
  C_Part : Addr
  C_Cue : Addr
  C_Walk : Addr
  C_Step : Addr
  C_Run : Addr
  C_LampError : Addr
  C_NoCue : Addr
  unit : Unit
structure Txt (K : PySem.W.Frag) (mg : Str → Option Value) (A : Adr) : Prop where
  F_is_whole : Fun K "is_whole" "is_whole" s_is_whole A.f_is_whole A.d_is_whole
  bb_is_whole : Binds K A.d_is_whole ["thing"] []
  m_is_whole : mg "is_whole" = some (.ref A.f_is_whole)
  F_is_time : Fun K "is_time" "is_time" s_is_time A.f_is_time A.d_is_time
  bb_is_time : Binds K A.d_is_time ["thing"] []
  m_is_time : mg "is_time" = some (.ref A.f_is_time)
  F_is_cue_number : Fun K "is_cue_number" "is_cue_number" s_is_cue_number A.f_is_cue_number A.d_is_cue_number
  bb_is_cue_number : Binds K A.d_is_cue_number ["thing"] []
  m_is_cue_number : mg "is_cue_number" = some (.ref A.f_is_cue_number)
  F_has_slots_as_keys : Fun K "has_slots_as_keys" "has_slots_as_keys" s_has_slots_as_keys A.f_has_slots_as_keys A.d_has_slots_as_keys
  bb_has_slots_as_keys : Binds K A.d_has_slots_as_keys ["thing"] []
  m_has_slots_as_keys : mg "has_slots_as_keys" = some (.ref A.f_has_slots_as_keys)
  F_Part_init : FunD K "__init__" "Part.__init__" s_Part_init (.ref A.T_Part_init) A.f_Part_init A.d_Part_init
  bb_Part_init : Binds K A.d_Part_init ["self", "tells", "alone", "rise", "fall", "wait"] []
  bd_Part_init : Binds K A.d_Part_init ["self", "tells", "alone", "rise", "fall", "wait"] A.D_Part_init
  dv_Part_init : Vals [V.int 0, V.int 0, V.int 0] A.D_Part_init
  kb_Part_init : KBinds K A.d_Part_init ["self", "tells", "alone", "rise", "fall", "wait"] ["rise", "fall", "wait"] (gAB 3 3) (gAB 3 3)
  M_Part : Mk K A.C_Part A.f_Part_init
  F_Part_told_slots : Fun K "told_slots" "Part.told_slots" s_Part_told_slots A.f_Part_told_slots A.d_Part_told_slots
  bb_Part_told_slots : Binds K A.d_Part_told_slots ["self"] []
  me_Part_told_slots : Meth K A.C_Part "told_slots" A.f_Part_told_slots
  F_is_part_list : Fun K "is_part_list" "is_part_list" s_is_part_list A.f_is_part_list A.d_is_part_list
  bb_is_part_list : Binds K A.d_is_part_list ["thing"] []
  m_is_part_list : mg "is_part_list" = some (.ref A.f_is_part_list)
  F_Cue_init : FunD K "__init__" "Cue.__init__" s_Cue_init (.ref A.T_Cue_init) A.f_Cue_init A.d_Cue_init
  bb_Cue_init : Binds K A.d_Cue_init ["self", "number", "parts", "stops", "follow"] []
  bd_Cue_init : Binds K A.d_Cue_init ["self", "number", "parts", "stops", "follow"] A.D_Cue_init
  dv_Cue_init : Vals [V.bl false, V.non] A.D_Cue_init
  kb_Cue_init : KBinds K A.d_Cue_init ["self", "number", "parts", "stops", "follow"] ["stops", "follow"] (gAB 3 2) (gAB 3 2)
  M_Cue : Mk K A.C_Cue A.f_Cue_init
  F_cue_list : Fun K "cue_list" "cue_list" s_cue_list A.f_cue_list A.d_cue_list
  bb_cue_list : Binds K A.d_cue_list ["cues"] []
  m_cue_list : mg "cue_list" = some (.ref A.f_cue_list)
  F_checked : Fun K "checked" "checked" s_checked A.f_checked A.d_checked
  bb_checked : Binds K A.d_checked ["cues", "number"] []
  m_checked : mg "checked" = some (.ref A.f_checked)
  F_above : Fun K "above" "above" s_above A.f_above A.d_above
  bb_above : Binds K A.d_above ["cues", "number"] []
  m_above : mg "above" = some (.ref A.f_above)
  F_below : Fun K "below" "below" s_below A.f_below A.d_below
  bb_below : Binds K A.d_below ["cues", "number"] []
  m_below : mg "below" = some (.ref A.f_below)
  F_cue_at : Fun K "cue_at" "cue_at" s_cue_at A.f_cue_at A.d_cue_at
  bb_cue_at : Binds K A.d_cue_at ["cues", "number"] []
  m_cue_at : mg "cue_at" = some (.ref A.f_cue_at)
  F_Walk_init : Fun K "__init__" "Walk.__init__" s_Walk_init A.f_Walk_init A.d_Walk_init
  bb_Walk_init : Binds K A.d_Walk_init ["self", "cues"] []
  M_Walk : Mk K A.C_Walk A.f_Walk_init
  F_Walk_clock_top : FunD K "clock_top" "Walk.clock_top" s_Walk_clock_top (.ref A.T_Walk_clock_top) A.f_Walk_clock_top A.d_Walk_clock_top
  bb_Walk_clock_top : Binds K A.d_Walk_clock_top ["self", "top", "bottom"] []
  bd_Walk_clock_top : Binds K A.d_Walk_clock_top ["self", "top", "bottom"] A.D_Walk_clock_top
  dv_Walk_clock_top : Vals [V.int 1] A.D_Walk_clock_top
  kb_Walk_clock_top : KBinds K A.d_Walk_clock_top ["self", "top", "bottom"] ["bottom"] (gAB 2 1) (gAB 2 1)
  me_Walk_clock_top : Meth K A.C_Walk "clock_top" A.f_Walk_clock_top
  F_Walk_note : Fun K "note" "Walk.note" s_Walk_note A.f_Walk_note A.d_Walk_note
  bb_Walk_note : Binds K A.d_Walk_note ["self", "clock", "word"] []
  me_Walk_note : Meth K A.C_Walk "note" A.f_Walk_note
  F_Walk_arrive : Fun K "arrive" "Walk.arrive" s_Walk_arrive A.f_Walk_arrive A.d_Walk_arrive
  bb_Walk_arrive : Binds K A.d_Walk_arrive ["self", "clock", "number"] []
  me_Walk_arrive : Meth K A.C_Walk "arrive" A.f_Walk_arrive
  F_Walk_come_to : FunD K "come_to" "Walk.come_to" s_Walk_come_to (.ref A.T_Walk_come_to) A.f_Walk_come_to A.d_Walk_come_to
  bb_Walk_come_to : Binds K A.d_Walk_come_to ["self", "top", "bottom"] []
  bd_Walk_come_to : Binds K A.d_Walk_come_to ["self", "top", "bottom"] A.D_Walk_come_to
  dv_Walk_come_to : Vals [V.int 1] A.D_Walk_come_to
  kb_Walk_come_to : KBinds K A.d_Walk_come_to ["self", "top", "bottom"] ["bottom"] (gAB 2 1) (gAB 2 1)
  me_Walk_come_to : Meth K A.C_Walk "come_to" A.f_Walk_come_to
  F_Walk_on : Fun K "on" "Walk.on" s_Walk_on A.f_Walk_on A.d_Walk_on
  bb_Walk_on : Binds K A.d_Walk_on ["self", "tick"] []
  me_Walk_on : Meth K A.C_Walk "on" A.f_Walk_on
  F_has_cue : Fun K "has_cue" "has_cue" s_has_cue A.f_has_cue A.d_has_cue
  bb_has_cue : Binds K A.d_has_cue ["cues", "number"] []
  m_has_cue : mg "has_cue" = some (.ref A.f_has_cue)
  F_Walk_goto : Fun K "goto" "Walk.goto" s_Walk_goto A.f_Walk_goto A.d_Walk_goto
  bb_Walk_goto : Binds K A.d_Walk_goto ["self", "tick", "number"] []
  me_Walk_goto : Meth K A.C_Walk "goto" A.f_Walk_goto
  F_Walk_go : Fun K "go" "Walk.go" s_Walk_go A.f_Walk_go A.d_Walk_go
  bb_Walk_go : Binds K A.d_Walk_go ["self", "tick"] []
  me_Walk_go : Meth K A.C_Walk "go" A.f_Walk_go
  F_Walk_back : Fun K "back" "Walk.back" s_Walk_back A.f_Walk_back A.d_Walk_back
  bb_Walk_back : Binds K A.d_Walk_back ["self", "tick"] []
  me_Walk_back : Meth K A.C_Walk "back" A.f_Walk_back
  F_Walk_change : Fun K "change" "Walk.change" s_Walk_change A.f_Walk_change A.d_Walk_change
  bb_Walk_change : Binds K A.d_Walk_change ["self", "tick", "cues"] []
  me_Walk_change : Meth K A.C_Walk "change" A.f_Walk_change
  F_put_in : Fun K "put_in" "put_in" s_put_in A.f_put_in A.d_put_in
  bb_put_in : Binds K A.d_put_in ["look", "told"] []
  m_put_in : mg "put_in" = some (.ref A.f_put_in)
  F_carried : Fun K "carried" "carried" s_carried A.f_carried A.d_carried
  bb_carried : Binds K A.d_carried ["cues", "number"] []
  m_carried : mg "carried" = some (.ref A.f_carried)
  F_shown : Fun K "shown" "shown" s_shown A.f_shown A.d_shown
  bb_shown : Binds K A.d_shown ["cues", "number"] []
  m_shown : mg "shown" = some (.ref A.f_shown)
  F_forked : Fun K "forked" "forked" s_forked A.f_forked A.d_forked
  bb_forked : Binds K A.d_forked ["walk"] []
  m_forked : mg "forked" = some (.ref A.f_forked)
  F_Step_init : Fun K "__init__" "Step.__init__" s_Step_init A.f_Step_init A.d_Step_init
  bb_Step_init : Binds K A.d_Step_init ["self", "row", "look"] []
  M_Step : Mk K A.C_Step A.f_Step_init
  F_steps_of : Fun K "steps_of" "steps_of" s_steps_of A.f_steps_of A.d_steps_of
  bb_steps_of : Binds K A.d_steps_of ["rows"] []
  m_steps_of : mg "steps_of" = some (.ref A.f_steps_of)
  F_tell_rows : Fun K "tell_rows" "tell_rows" s_tell_rows A.f_tell_rows A.d_tell_rows
  bb_tell_rows : Binds K A.d_tell_rows ["courses", "rows"] []
  m_tell_rows : mg "tell_rows" = some (.ref A.f_tell_rows)
  F_Run_init : Fun K "__init__" "Run.__init__" s_Run_init A.f_Run_init A.d_Run_init
  bb_Run_init : Binds K A.d_Run_init ["self", "cues"] []
  M_Run : Mk K A.C_Run A.f_Run_init
  F_Run_walked_to : FunD K "walked_to" "Run.walked_to" s_Run_walked_to (.ref A.T_Run_walked_to) A.f_Run_walked_to A.d_Run_walked_to
  bb_Run_walked_to : Binds K A.d_Run_walked_to ["self", "top", "bottom"] []
  bd_Run_walked_to : Binds K A.d_Run_walked_to ["self", "top", "bottom"] A.D_Run_walked_to
  dv_Run_walked_to : Vals [V.int 1] A.D_Run_walked_to
  kb_Run_walked_to : KBinds K A.d_Run_walked_to ["self", "top", "bottom"] ["bottom"] (gAB 2 1) (gAB 2 1)
  me_Run_walked_to : Meth K A.C_Run "walked_to" A.f_Run_walked_to
  F_Run_take : Fun K "take" "Run.take" s_Run_take A.f_Run_take A.d_Run_take
  bb_Run_take : Binds K A.d_Run_take ["self", "tick", "walk"] []
  me_Run_take : Meth K A.C_Run "take" A.f_Run_take
  F_refuse_undone : Fun K "refuse_undone" "refuse_undone" s_refuse_undone A.f_refuse_undone A.d_refuse_undone
  bb_refuse_undone : Binds K A.d_refuse_undone ["done"] []
  m_refuse_undone : mg "refuse_undone" = some (.ref A.f_refuse_undone)
  F_Run_go : Fun K "go" "Run.go" s_Run_go A.f_Run_go A.d_Run_go
  bb_Run_go : Binds K A.d_Run_go ["self", "tick"] []
  me_Run_go : Meth K A.C_Run "go" A.f_Run_go
  F_Run_back : Fun K "back" "Run.back" s_Run_back A.f_Run_back A.d_Run_back
  bb_Run_back : Binds K A.d_Run_back ["self", "tick"] []
  me_Run_back : Meth K A.C_Run "back" A.f_Run_back
  F_Run_goto : Fun K "goto" "Run.goto" s_Run_goto A.f_Run_goto A.d_Run_goto
  bb_Run_goto : Binds K A.d_Run_goto ["self", "tick", "number"] []
  me_Run_goto : Meth K A.C_Run "goto" A.f_Run_goto
  F_Run_change : Fun K "change" "Run.change" s_Run_change A.f_Run_change A.d_Run_change
  bb_Run_change : Binds K A.d_Run_change ["self", "tick", "cues"] []
  me_Run_change : Meth K A.C_Run "change" A.f_Run_change
  F_Run_number_at : FunD K "number_at" "Run.number_at" s_Run_number_at (.ref A.T_Run_number_at) A.f_Run_number_at A.d_Run_number_at
  bb_Run_number_at : Binds K A.d_Run_number_at ["self", "top", "bottom"] []
  bd_Run_number_at : Binds K A.d_Run_number_at ["self", "top", "bottom"] A.D_Run_number_at
  dv_Run_number_at : Vals [V.int 1] A.D_Run_number_at
  kb_Run_number_at : KBinds K A.d_Run_number_at ["self", "top", "bottom"] ["bottom"] (gAB 2 1) (gAB 2 1)
  me_Run_number_at : Meth K A.C_Run "number_at" A.f_Run_number_at
  F_law_cell_at : Fun K "_law_cell_at" "_law_cell_at" s_law_cell_at A.f_law_cell_at A.d_law_cell_at
  bb_law_cell_at : Binds K A.d_law_cell_at ["_law_script", "_law_k"] []
  m_law_cell_at : mg "_law_cell_at" = some (.ref A.f_law_cell_at)
  F_law_whole : Fun K "_law_whole" "_law_whole" s_law_whole A.f_law_whole A.d_law_whole
  bb_law_whole : Binds K A.d_law_whole ["_law_found"] []
  m_law_whole : mg "_law_whole" = some (.ref A.f_law_whole)
  F_law_draw : Fun K "_law_draw" "_law_draw" s_law_draw A.f_law_draw A.d_law_draw
  bb_law_draw : Binds K A.d_law_draw ["_law_cell", "_law_place"] []
  m_law_draw : mg "_law_draw" = some (.ref A.f_law_draw)
  F_law_rest : Fun K "_law_rest" "_law_rest" s_law_rest A.f_law_rest A.d_law_rest
  bb_law_rest : Binds K A.d_law_rest ["_law_cell"] []
  m_law_rest : mg "_law_rest" = some (.ref A.f_law_rest)
  F_law_numbers : Fun K "_law_numbers" "_law_numbers" s_law_numbers A.f_law_numbers A.d_law_numbers
  bb_law_numbers : Binds K A.d_law_numbers ["_law_cell", "_law_wide"] []
  m_law_numbers : mg "_law_numbers" = some (.ref A.f_law_numbers)
  F_law_cues : Fun K "_law_cues" "_law_cues" s_law_cues A.f_law_cues A.d_law_cues
  bb_law_cues : Binds K A.d_law_cues ["_law_numbers_here"] []
  m_law_cues : mg "_law_cues" = some (.ref A.f_law_cues)
  F_law_goal : Fun K "_law_goal" "_law_goal" s_law_goal A.f_law_goal A.d_law_goal
  bb_law_goal : Binds K A.d_law_goal ["_law_numbers_here", "_law_here", "_law_word", "_law_to"] []
  m_law_goal : mg "_law_goal" = some (.ref A.f_law_goal)
  F_law_deed : Fun K "_law_deed" "_law_deed" s_law_deed A.f_law_deed A.d_law_deed
  bb_law_deed : Binds K A.d_law_deed ["_law_run", "_law_word", "_law_tick", "_law_to"] []
  m_law_deed : mg "_law_deed" = some (.ref A.f_law_deed)
  F_law_stands : Fun K "_law_stands" "_law_stands" s_law_stands A.f_law_stands A.d_law_stands
  bb_law_stands : Binds K A.d_law_stands ["_law_run", "_law_tick", "_law_here"] []
  m_law_stands : mg "_law_stands" = some (.ref A.f_law_stands)
  F_law : Fun K "law" "law" s_law A.f_law A.d_law
  bb_law : Binds K A.d_law ["_law_script"] []
  m_law : mg "law" = some (.ref A.f_law)
  cl_Part : Cls K A.C_Part
  c_Part : mg "Part" = some (.ref A.C_Part)
  na_Part_tells : NoAttr K A.C_Part "tells"
  na_Part_alone : NoAttr K A.C_Part "alone"
  na_Part_rise : NoAttr K A.C_Part "rise"
  na_Part_fall : NoAttr K A.C_Part "fall"
  na_Part_wait : NoAttr K A.C_Part "wait"
  ty_Part : ∀ (H : Hp) (a dx : Addr) (fs : List (Str × V)), H a = some (.ins A.C_Part dx fs) → TyOf K H (.ref a) (.ref A.C_Part)
  kt_Part : PySem.W.kitOne K (.ref A.C_Part) (.ref A.C_Part) = some true
  cl_Cue : Cls K A.C_Cue
  c_Cue : mg "Cue" = some (.ref A.C_Cue)
  na_Cue_number : NoAttr K A.C_Cue "number"
  na_Cue_parts : NoAttr K A.C_Cue "parts"
  na_Cue_stops : NoAttr K A.C_Cue "stops"
  na_Cue_follow : NoAttr K A.C_Cue "follow"
  ty_Cue : ∀ (H : Hp) (a dx : Addr) (fs : List (Str × V)), H a = some (.ins A.C_Cue dx fs) → TyOf K H (.ref a) (.ref A.C_Cue)
  kt_Cue : PySem.W.kitOne K (.ref A.C_Cue) (.ref A.C_Cue) = some true
  cl_Walk : Cls K A.C_Walk
  c_Walk : mg "Walk" = some (.ref A.C_Walk)
  na_Walk_cues : NoAttr K A.C_Walk "cues"
  na_Walk_number : NoAttr K A.C_Walk "number"
  na_Walk_lag : NoAttr K A.C_Walk "lag"
  na_Walk_held : NoAttr K A.C_Walk "held"
  na_Walk_due : NoAttr K A.C_Walk "due"
  na_Walk_trail : NoAttr K A.C_Walk "trail"
  cl_Step : Cls K A.C_Step
  c_Step : mg "Step" = some (.ref A.C_Step)
  na_Step_clock : NoAttr K A.C_Step "clock"
  na_Step_look : NoAttr K A.C_Step "look"
  na_Step_cue : NoAttr K A.C_Step "cue"
  na_Step_word : NoAttr K A.C_Step "word"
  cl_Run : Cls K A.C_Run
  c_Run : mg "Run" = some (.ref A.C_Run)
  na_Run_walk : NoAttr K A.C_Run "walk"
  na_Run_courses : NoAttr K A.C_Run "courses"
  na_Run_last : NoAttr K A.C_Run "last"
  c_LampError : mg "LampError" = some (.ref A.C_LampError)
  c_NoCue : mg "NoCue" = some (.ref A.C_NoCue)
  x_NoCue : ExcC K A.C_NoCue
  xc_NoCue : XCls K A.C_NoCue
  xm_NoCue : PySem.W.exmOne K (.ref A.C_NoCue) (.ref A.C_LampError) = some true
  xv_NoCue : PySem.W.kitOne K (.ref A.C_NoCue) (.type "ValueError") = some true
  xe_NoCue_NoCue : PySem.W.exmOne K (.ref A.C_NoCue) (.ref A.C_NoCue) = some true
  xk_NoCue_LampError : PySem.W.kitOne K (.ref A.C_NoCue) (.ref A.C_LampError) = some true
  xk_NoCue_NoCue : PySem.W.kitOne K (.ref A.C_NoCue) (.ref A.C_NoCue) = some true
  b_isinstance : mg "isinstance" = none
  b_int : mg "int" = none
  b_bool : mg "bool" = none
  b_str : mg "str" = none
  b_tuple : mg "tuple" = none
  b_list : mg "list" = none
  b_dict : mg "dict" = none
  b_set : mg "set" = none
  b_sorted : mg "sorted" = none
  b_len : mg "len" = none
  b_all : mg "all" = none
  b_any : mg "any" = none
  b_min : mg "min" = none
  b_max : mg "max" = none
  b_range : mg "range" = none
  b_sum : mg "sum" = none
  g_MOST_TICKS : ∃ t, mg "MOST_TICKS" = some (.int 1000000000 t)
  g_MOST_NUMBER : ∃ t, mg "MOST_NUMBER" = some (.int 1000000000 t)
  g_MOST_PARTS : ∃ t, mg "MOST_PARTS" = some (.int 9 t)
theorem sc_is_whole : FnScope ["thing"] ["thing"] (defScope s_is_whole) := ⟨rfl, rfl, rfl, by decide +kernel, rfl, by decide +kernel, by decide +kernel⟩
theorem sc_is_time : FnScope ["thing"] ["thing"] (defScope s_is_time) := ⟨rfl, rfl, rfl, by decide +kernel, rfl, by decide +kernel, by decide +kernel⟩
theorem sc_is_cue_number : FnScope ["thing"] ["thing"] (defScope s_is_cue_number) := ⟨rfl, rfl, rfl, by decide +kernel, rfl, by decide +kernel, by decide +kernel⟩
theorem sc_has_slots_as_keys : FnScope ["thing"] ["thing"] (defScope s_has_slots_as_keys) := ⟨rfl, rfl, rfl, by decide +kernel, rfl, by decide +kernel, by decide +kernel⟩
theorem ndc_has_slots_as_keys_0 : (["key"] : List Str).Nodup := by decide +kernel
theorem sc_Part_init : FnScope ["self", "tells", "alone", "rise", "fall", "wait", "told", "worth"] ["self", "tells", "alone", "rise", "fall", "wait"] (defScope s_Part_init) := ⟨rfl, rfl, rfl, by decide +kernel, rfl, by decide +kernel, by decide +kernel⟩
theorem ndc_Part_init_0 : (["ticks"] : List Str).Nodup := by decide +kernel
theorem sc_Part_told_slots : FnScope ["self"] ["self"] (defScope s_Part_told_slots) := ⟨rfl, rfl, rfl, by decide +kernel, rfl, by decide +kernel, by decide +kernel⟩
theorem sc_is_part_list : FnScope ["thing", "slots", "part"] ["thing"] (defScope s_is_part_list) := ⟨rfl, rfl, rfl, by decide +kernel, rfl, by decide +kernel, by decide +kernel⟩
theorem ndc_is_part_list_0 : (["part"] : List Str).Nodup := by decide +kernel
theorem sc_Cue_init : FnScope ["self", "number", "parts", "stops", "follow"] ["self", "number", "parts", "stops", "follow"] (defScope s_Cue_init) := ⟨rfl, rfl, rfl, by decide +kernel, rfl, by decide +kernel, by decide +kernel⟩
theorem sc_cue_list : FnScope ["cues", "place"] ["cues"] (defScope s_cue_list) := ⟨rfl, rfl, rfl, by decide +kernel, rfl, by decide +kernel, by decide +kernel⟩
theorem ndc_cue_list_0 : (["cue"] : List Str).Nodup := by decide +kernel
theorem sc_checked : FnScope ["cues", "number", "own"] ["cues", "number"] (defScope s_checked) := ⟨rfl, rfl, rfl, by decide +kernel, rfl, by decide +kernel, by decide +kernel⟩
theorem sc_above : FnScope ["cues", "number"] ["cues", "number"] (defScope s_above) := ⟨rfl, rfl, rfl, by decide +kernel, rfl, by decide +kernel, by decide +kernel⟩
theorem ndc_above_0 : (["cue", "number"] : List Str).Nodup := by decide +kernel
theorem sc_below : FnScope ["cues", "number"] ["cues", "number"] (defScope s_below) := ⟨rfl, rfl, rfl, by decide +kernel, rfl, by decide +kernel, by decide +kernel⟩
theorem ndc_below_0 : (["cue", "number"] : List Str).Nodup := by decide +kernel
theorem sc_cue_at : FnScope ["cues", "number", "cue"] ["cues", "number"] (defScope s_cue_at) := ⟨rfl, rfl, rfl, by decide +kernel, rfl, by decide +kernel, by decide +kernel⟩
theorem sc_Walk_init : FnScope ["self", "cues"] ["self", "cues"] (defScope s_Walk_init) := ⟨rfl, rfl, rfl, by decide +kernel, rfl, by decide +kernel, by decide +kernel⟩
theorem sc_Walk_clock_top : FnScope ["self", "top", "bottom"] ["self", "top", "bottom"] (defScope s_Walk_clock_top) := ⟨rfl, rfl, rfl, by decide +kernel, rfl, by decide +kernel, by decide +kernel⟩
theorem sc_Walk_note : FnScope ["self", "clock", "word"] ["self", "clock", "word"] (defScope s_Walk_note) := ⟨rfl, rfl, rfl, by decide +kernel, rfl, by decide +kernel, by decide +kernel⟩
theorem sc_Walk_arrive : FnScope ["self", "clock", "number", "follow"] ["self", "clock", "number"] (defScope s_Walk_arrive) := ⟨rfl, rfl, rfl, by decide +kernel, rfl, by decide +kernel, by decide +kernel⟩
theorem sc_Walk_come_to : FnScope ["self", "top", "bottom", "clock", "number"] ["self", "top", "bottom"] (defScope s_Walk_come_to) := ⟨rfl, rfl, rfl, by decide +kernel, rfl, by decide +kernel, by decide +kernel⟩
theorem sc_Walk_on : FnScope ["self", "tick"] ["self", "tick"] (defScope s_Walk_on) := ⟨rfl, rfl, rfl, by decide +kernel, rfl, by decide +kernel, by decide +kernel⟩
theorem sc_has_cue : FnScope ["cues", "number"] ["cues", "number"] (defScope s_has_cue) := ⟨rfl, rfl, rfl, by decide +kernel, rfl, by decide +kernel, by decide +kernel⟩
theorem ndc_has_cue_0 : (["cue", "number"] : List Str).Nodup := by decide +kernel
theorem sc_Walk_goto : FnScope ["self", "tick", "number"] ["self", "tick", "number"] (defScope s_Walk_goto) := ⟨rfl, rfl, rfl, by decide +kernel, rfl, by decide +kernel, by decide +kernel⟩
theorem sc_Walk_go : FnScope ["self", "tick"] ["self", "tick"] (defScope s_Walk_go) := ⟨rfl, rfl, rfl, by decide +kernel, rfl, by decide +kernel, by decide +kernel⟩
theorem sc_Walk_back : FnScope ["self", "tick"] ["self", "tick"] (defScope s_Walk_back) := ⟨rfl, rfl, rfl, by decide +kernel, rfl, by decide +kernel, by decide +kernel⟩
theorem sc_Walk_change : FnScope ["self", "tick", "cues"] ["self", "tick", "cues"] (defScope s_Walk_change) := ⟨rfl, rfl, rfl, by decide +kernel, rfl, by decide +kernel, by decide +kernel⟩
theorem sc_put_in : FnScope ["look", "told", "slot", "worth"] ["look", "told"] (defScope s_put_in) := ⟨rfl, rfl, rfl, by decide +kernel, rfl, by decide +kernel, by decide +kernel⟩
theorem sc_carried : FnScope ["cues", "number", "look", "cue", "part"] ["cues", "number"] (defScope s_carried) := ⟨rfl, rfl, rfl, by decide +kernel, rfl, by decide +kernel, by decide +kernel⟩
theorem sc_shown : FnScope ["cues", "number", "look", "cue", "part"] ["cues", "number"] (defScope s_shown) := ⟨rfl, rfl, rfl, by decide +kernel, rfl, by decide +kernel, by decide +kernel⟩
theorem sc_forked : FnScope ["walk", "other"] ["walk"] (defScope s_forked) := ⟨rfl, rfl, rfl, by decide +kernel, rfl, by decide +kernel, by decide +kernel⟩
theorem sc_Step_init : FnScope ["self", "row", "look"] ["self", "row", "look"] (defScope s_Step_init) := ⟨rfl, rfl, rfl, by decide +kernel, rfl, by decide +kernel, by decide +kernel⟩
theorem sc_steps_of : FnScope ["rows", "steps", "cues", "looks", "row"] ["rows"] (defScope s_steps_of) := ⟨rfl, rfl, rfl, by decide +kernel, rfl, by decide +kernel, by decide +kernel⟩
theorem sc_tell_rows : FnScope ["courses", "rows", "step", "slot", "course"] ["courses", "rows"] (defScope s_tell_rows) := ⟨rfl, rfl, rfl, by decide +kernel, rfl, by decide +kernel, by decide +kernel⟩
theorem sc_Run_init : FnScope ["self", "cues"] ["self", "cues"] (defScope s_Run_init) := ⟨rfl, rfl, rfl, by decide +kernel, rfl, by decide +kernel, by decide +kernel⟩
theorem sc_Run_walked_to : FnScope ["self", "top", "bottom", "walk"] ["self", "top", "bottom"] (defScope s_Run_walked_to) := ⟨rfl, rfl, rfl, by decide +kernel, rfl, by decide +kernel, by decide +kernel⟩
theorem sc_Run_take : FnScope ["self", "tick", "walk"] ["self", "tick", "walk"] (defScope s_Run_take) := ⟨rfl, rfl, rfl, by decide +kernel, rfl, by decide +kernel, by decide +kernel⟩
theorem sc_refuse_undone : FnScope ["done"] ["done"] (defScope s_refuse_undone) := ⟨rfl, rfl, rfl, by decide +kernel, rfl, by decide +kernel, by decide +kernel⟩
theorem sc_Run_go : FnScope ["self", "tick", "walk"] ["self", "tick"] (defScope s_Run_go) := ⟨rfl, rfl, rfl, by decide +kernel, rfl, by decide +kernel, by decide +kernel⟩
theorem sc_Run_back : FnScope ["self", "tick", "walk"] ["self", "tick"] (defScope s_Run_back) := ⟨rfl, rfl, rfl, by decide +kernel, rfl, by decide +kernel, by decide +kernel⟩
theorem sc_Run_goto : FnScope ["self", "tick", "number", "walk"] ["self", "tick", "number"] (defScope s_Run_goto) := ⟨rfl, rfl, rfl, by decide +kernel, rfl, by decide +kernel, by decide +kernel⟩
theorem sc_Run_change : FnScope ["self", "tick", "cues", "walk"] ["self", "tick", "cues"] (defScope s_Run_change) := ⟨rfl, rfl, rfl, by decide +kernel, rfl, by decide +kernel, by decide +kernel⟩
theorem sc_Run_number_at : FnScope ["self", "top", "bottom"] ["self", "top", "bottom"] (defScope s_Run_number_at) := ⟨rfl, rfl, rfl, by decide +kernel, rfl, by decide +kernel, by decide +kernel⟩
theorem sc_law_cell_at : FnScope ["_law_script", "_law_k"] ["_law_script", "_law_k"] (defScope s_law_cell_at) := ⟨rfl, rfl, rfl, by decide +kernel, rfl, by decide +kernel, by decide +kernel⟩
theorem sc_law_whole : FnScope ["_law_found"] ["_law_found"] (defScope s_law_whole) := ⟨rfl, rfl, rfl, by decide +kernel, rfl, by decide +kernel, by decide +kernel⟩
theorem sc_law_draw : FnScope ["_law_cell", "_law_place", "_law_own", "_law_number"] ["_law_cell", "_law_place"] (defScope s_law_draw) := ⟨rfl, rfl, rfl, by decide +kernel, rfl, by decide +kernel, by decide +kernel⟩
theorem sc_law_rest : FnScope ["_law_cell"] ["_law_cell"] (defScope s_law_rest) := ⟨rfl, rfl, rfl, by decide +kernel, rfl, by decide +kernel, by decide +kernel⟩
theorem sc_law_numbers : FnScope ["_law_cell", "_law_wide", "_law_found", "_law_number", "_law_k"] ["_law_cell", "_law_wide"] (defScope s_law_numbers) := ⟨rfl, rfl, rfl, by decide +kernel, rfl, by decide +kernel, by decide +kernel⟩
theorem sc_law_cues : FnScope ["_law_numbers_here"] ["_law_numbers_here"] (defScope s_law_cues) := ⟨rfl, rfl, rfl, by decide +kernel, rfl, by decide +kernel, by decide +kernel⟩
theorem ndc_law_cues_0 : (["_law_number"] : List Str).Nodup := by decide +kernel
theorem sc_law_goal : FnScope ["_law_numbers_here", "_law_here", "_law_word", "_law_to"] ["_law_numbers_here", "_law_here", "_law_word", "_law_to"] (defScope s_law_goal) := ⟨rfl, rfl, rfl, by decide +kernel, rfl, by decide +kernel, by decide +kernel⟩
theorem ndc_law_goal_0 : (["_law_number", "_law_here"] : List Str).Nodup := by decide +kernel
theorem ndc_law_goal_1 : (["_law_number", "_law_here"] : List Str).Nodup := by decide +kernel
theorem sc_law_deed : FnScope ["_law_run", "_law_word", "_law_tick", "_law_to", "_law_found"] ["_law_run", "_law_word", "_law_tick", "_law_to"] (defScope s_law_deed) := ⟨rfl, rfl, rfl, by decide +kernel, rfl, by decide +kernel, by decide +kernel⟩
theorem sc_law_stands : FnScope ["_law_run", "_law_tick", "_law_here", "_law_found"] ["_law_run", "_law_tick", "_law_here"] (defScope s_law_stands) := ⟨rfl, rfl, rfl, by decide +kernel, rfl, by decide +kernel, by decide +kernel⟩
theorem sc_law : FnScope ["_law_script", "_law_wide", "_law_numbers_here", "_law_run", "_law_here", "_law_tick", "_law_deeds", "_law_k", "_law_draw_here", "_law_word", "_law_some", "_law_to", "_law_due", "_law_found"] ["_law_script"] (defScope s_law) := ⟨rfl, rfl, rfl, by decide +kernel, rfl, by decide +kernel, by decide +kernel⟩
theorem ndc_law_0 : (["_law_cell", "_law_script"] : List Str).Nodup := by decide +kernel
def spWh0 : Sp := fun vs H Q _ => ∃ i : Int, vs = [.int i] ∧ Q (.bl true) H
variable {P : Program} {w : World} {K : PySem.W.Frag} {mg : Str → Option Value} {base : Heap} {A : Adr}
theorem ok_is_whole (T : Txt K mg A) : FnOk P w K mg base (CXE P w) 1 A.f_is_whole A.d_is_whole ["thing"] (spWh0) := by
  refine T.F_is_whole.okN sc_is_whole (fun vs H Q E h => ?_) (fun cdv Ar outer s H vs Q E hr h => ?_)
  · obtain ⟨i, rfl, k⟩ := h
    rfl
  · obtain ⟨i, rfl, k⟩ := h
    refine ⟨_, (pss_one (ps_ret (pe_and (pe_callB (call_isiT K) (by rfl) T.b_isinstance boot_isinstance (pa_cons (pv 0) (pa_cons (pe_ty (by rfl) T.b_int boot_int) pa_nil))) (pe_one (pe_not (pe_callB (call_isiT K) (by rfl) T.b_isinstance boot_isinstance (pa_cons (pv 0) (pa_cons (pe_ty (by rfl) T.b_bool boot_bool) pa_nil)))))))), ?_⟩
    refine ⟨_, rfl, _, _, _, _, rfl, .int i, kit_sub (.inr (.inr (.inl rfl))) (.inl rfl), _, rfl, iteT ?_⟩
    exact ⟨_, rfl, _, _, _, _, rfl, .int i, kit_sub (.inr (.inr (.inl rfl))) (.inr (.inl rfl)), _, rfl, k⟩
def spTime0 : Sp := fun vs H Q _ => ∃ i : Int, vs = [.int i] ∧ 0 ≤ i ∧ i ≤ 1000000000 ∧ Q (.bl true) H
theorem ok_is_time (T : Txt K mg A) : FnOk P w K mg base (CXE P w) 2 A.f_is_time A.d_is_time ["thing"] (spTime0) := by
  have G_is_whole := ok_is_whole (P := P) (w := w) (base := base) T
  refine T.F_is_time.okN sc_is_time (fun vs H Q E h => ?_) (fun cdv Ar outer s H vs Q E hr h => ?_)
  · obtain ⟨i, rfl, h0, h1, k⟩ := h
    rfl
  · obtain ⟨i, rfl, h0, h1, k⟩ := h
    refine ⟨_, (pss_one (ps_ret (pe_and (pe_call G_is_whole (hr.mono (by decide)) (by rfl) T.m_is_whole T.F_is_whole.kp T.bb_is_whole .nil passE0 (pa_cons (pv 0) pa_nil)) (pe_one (pe_chain op_le op_le pe_int (pv 0) (pe_gint (by rfl) T.g_MOST_TICKS)))))), ?_⟩
    refine ⟨_, rfl, i, rfl, _, rfl, iteT ?_⟩
    refine ⟨_, rfl, _, _, rfl, rfl, _, rfl, ?_⟩
    rw [decide_eq_true h0]
    refine iteT ⟨_, _, rfl, rfl, ?_⟩
    show Q (.bl (decide (i ≤ 1000000000))) H
    rw [decide_eq_true h1]
    exact k
def spNum0 : Sp := fun vs H Q _ => ∃ i : Int, vs = [.int i] ∧ 1 ≤ i ∧ i ≤ 1000000000 ∧ Q (.bl true) H
theorem ok_is_cue_number (T : Txt K mg A) : FnOk P w K mg base (CXE P w) 2 A.f_is_cue_number A.d_is_cue_number ["thing"] (spNum0) := by
  have G_is_whole := ok_is_whole (P := P) (w := w) (base := base) T
  refine T.F_is_cue_number.okN sc_is_cue_number (fun vs H Q E h => ?_) (fun cdv Ar outer s H vs Q E hr h => ?_)
  · obtain ⟨i, rfl, h0, h1, k⟩ := h
    rfl
  · obtain ⟨i, rfl, h0, h1, k⟩ := h
    refine ⟨_, (pss_one (ps_ret (pe_and (pe_call G_is_whole (hr.mono (by decide)) (by rfl) T.m_is_whole T.F_is_whole.kp T.bb_is_whole .nil passE0 (pa_cons (pv 0) pa_nil)) (pe_one (pe_chain op_le op_le pe_int (pv 0) (pe_gint (by rfl) T.g_MOST_NUMBER)))))), ?_⟩
    refine ⟨_, rfl, i, rfl, _, rfl, iteT ?_⟩
    refine ⟨_, rfl, _, _, rfl, rfl, _, rfl, ?_⟩
    rw [decide_eq_true h0]
    refine iteT ⟨_, _, rfl, rfl, ?_⟩
    show Q (.bl (decide (i ≤ 1000000000))) H
    rw [decide_eq_true h1]
    exact k
theorem kt0 {H : Hp} {xs : List (List Key × Addr × Value)} (h : KT H [] xs) : xs = [] := by cases h; rfl
theorem kit_dd {K : PySem.W.Frag} : PySem.W.kitOne K (.type "dict") (.type "dict") = some true := by kernel_rfl
theorem kit_ll {K : PySem.W.Frag} : PySem.W.kitOne K (.type "list") (.type "list") = some true := by kernel_rfl
theorem ts_hold {H H' : Hp} {d : Addr} {o : Obj} {kvs : List (List Key × V)} (hd : H d = some (.dT kvs)) (sm : Same (upd H d (held d o)) H') : TSame H H' := fun b xs e => by
  refine sm b _ ?_
  rw [upd_ne (ne_of e hd (by intro z; cases z))]; exact e
theorem sm_hold {H H' : Hp} {d : Addr} {o : Obj} {kvs : List (List Key × V)} (hd : H d = some (.dT kvs)) (sm : Same (upd H d (held d o)) H') : Same H (upd H' d (.dT kvs)) := fun b u e => by
  by_cases hb : b = d
  · subst hb; rw [hd] at e; cases e; exact upd_same
  · rw [upd_ne hb]; exact sm b u (by rw [upd_ne hb]; exact e)
theorem none_told {H : Hp} {d D : Addr} {o : Obj} {g : TG} {te : TE} {σ0 : St} {Q : Hp → Prop} (hd : H d = some (.dT [])) (hD : H D = none) {H1 : Hp} (s1 : Same (upd H d (held d o)) H1) (hD1 : H1 D = none)
    (h : ∀ H', Same (upd H d (held d o)) H' → H' D = some (.lst []) → Q H') :
    ∃ W : Nat → Nat → St → Hp → Prop, (∃ m, W 0 m σ0 (upd H1 D (.lst []))) ∧
      ∀ i m σ' H', W i m σ' H' → ((Itd d o []).stop i H' ∧ Q H') ∨ ((Itd d o []).go i H' ∧ ∀ x H2, (Itd d o []).yld i H' x H2 → g x σ' H2 fun σ3 H3 => te σ3 H3 fun v H4 => ∃ xs, H4 D = some (.lst xs) ∧ xs.length < sizeLine ∧ ∃ m', m' < m ∧ W (i + 1) m' σ3 (upd H4 D (.lst (xs ++ [v])))) :=
  comp_dict (fun _ _ _ => True) (fun _ => True) (fun _ _ _ _ _ h => h) (s1 _ _ upd_same) hD1 (Nat.zero_le _) trivial (fun x σ' H N hx => by simp at hx) fun ys H' sm hl hp => h H' (s1.trans sm) (by cases hp; exact hl)
def spKeys0 : Sp := fun vs H Q _ => ∃ d, vs = [.ref d] ∧ H d = some (.dT []) ∧ ∀ H', Same H H' → Q (.bl true) H'
theorem ok_has_slots_as_keys (T : Txt K mg A) : FnOk P w K mg base (CXE P w) 2 A.f_has_slots_as_keys A.d_has_slots_as_keys ["thing"] (spKeys0) := by
  refine T.F_has_slots_as_keys.okN sc_has_slots_as_keys (fun vs H Q E h => ?_) (fun cdv Ar outer s H vs Q E hr h => ?_)
  · obtain ⟨d, rfl, hd, k⟩ := h
    rfl
  · obtain ⟨d, rfl, hd, k⟩ := h
    refine ⟨_, (pss_one (ps_ret (pe_and (pe_callB (call_isiT K) (by rfl) T.b_isinstance boot_isinstance (pa_cons (pv 0) (pa_cons (pe_ty (by rfl) T.b_dict boot_dict) pa_nil))) (pe_one (pe_callB (call_allB K rfl) (by rfl) T.b_all boot_all (pa_cons (pe_hold (pe_comp ["key"] [none] rfl (pi_key (pv 0)) (fun _ _ _ => (pg_name (i := 0) ndc_has_slots_as_keys_0 rfl (Or.inl rfl))) (fun _ _ _ => pe_no))) pa_nil)))))), ?_⟩
    refine ⟨_, rfl, _, _, _, true, rfl, .dT hd, kit_dd, true, rfl, iteT ?_⟩
    refine ⟨d, [], hd, fun o xs es ep D kt => ?_⟩
    have hv := keys_vals D
    rw [kt0 kt] at hv
    refine ⟨_, rfl, d, o, [], es, ep, rfl, upd_same, D.sys, D.ex, D.data, hv, fun D' hD' => ?_⟩
    have hD : H D' = none := by
      have ne : D' ≠ d := by rintro rfl; rw [upd_same] at hD'; cases hD'
      rw [upd_ne ne] at hD'; exact hD'
    refine none_told hd hD (Same.refl _) hD' fun H' sm hl => ⟨sm _ _ upd_same, ts_hold hd sm, ?_⟩
    refine ⟨D', [], rfl, SqL.of ?_, k _ (sm_hold hd sm)⟩
    rw [upd_ne (Ne.symm (ne_of_none hd hD))]; exact hl
def partF (d1 d2 : Addr) : List (Str × V) := [("tells", .ref d1), ("alone", .ref d2), ("rise", .int 0), ("fall", .int 0), ("wait", .int 0)]
def Part0 (A : Adr) (H : Hp) (p : Addr) : Prop := ∃ dx d1 d2, H p = some (.ins A.C_Part dx (partF d1 d2)) ∧ H d1 = some (.dT []) ∧ H d2 = some (.dT [])
def spPart0 (A : Adr) : Sp := fun vs H Q _ => ∃ (x dx d1 d2 : Addr), vs = [.ref x, .ref d1, .ref d2, .int 0, .int 0, .int 0] ∧ H x = some (.ins A.C_Part dx []) ∧ H d1 = some (.dT []) ∧ H d2 = some (.dT []) ∧
  ∀ H', Part0 A H' x → (∀ b o, b ≠ x → H b = some o → H' b = some o) → Q .non H'
theorem ok_Part_init (T : Txt K mg A) : FnOk P w K mg base (CXE P w) 3 A.f_Part_init A.d_Part_init ["self", "tells", "alone", "rise", "fall", "wait"] (spPart0 A) := by
  have G_has_slots_as_keys := ok_has_slots_as_keys (P := P) (w := w) (base := base) T
  have G_is_time := ok_is_time (P := P) (w := w) (base := base) T
  refine T.F_Part_init.okN sc_Part_init (fun vs H Q E h => ?_) (fun cdv Ar outer s H vs Q E hr h => ?_)
  · obtain ⟨x, dx, d1, d2, rfl, hx, h1, h2, k⟩ := h
    rfl
  · obtain ⟨x, dx, d1, d2, rfl, hx, h1, h2, k⟩ := h
    refine ⟨_, (pss_cons (ps_for PassesOwn.never rfl (pi_tupK K (pe_tupS (pa_cons (pv 1) (pa_cons (pv 2) pa_nil)))) (pg_name (i := 6) sc_Part_init.nd rfl (Or.inl rfl)) (pss_one (ps_if (pt_not (pt_val (pe_call G_has_slots_as_keys (hr.mono (by decide)) (by rfl) T.m_has_slots_as_keys T.F_has_slots_as_keys.kp T.bb_has_slots_as_keys .nil passE0 (pa_cons (pv 6) pa_nil)))) (pss_one ps_never) pss_nil)))
      (pss_cons (ps_for PassesOwn.never rfl (pi_tupK K (pe_tupS (pa_cons (pv 1) (pa_cons (pv 2) pa_nil)))) (pg_name (i := 6) sc_Part_init.nd rfl (Or.inl rfl)) (pss_one (ps_hold (ps_for PassesOwn.never rfl (pi_val (pe_values (pv 6))) (pg_name (i := 7) sc_Part_init.nd rfl (Or.inl rfl)) pss_never))))
      (pss_cons (ps_if (pt_not (pt_val (pe_callB (call_allB K rfl) (by rfl) T.b_all boot_all (pa_cons (pe_comp ["ticks"] [none] rfl (pi_tupK K (pe_tupS (pa_cons (pv 3) (pa_cons (pv 4) (pa_cons (pv 5) pa_nil))))) (fun _ _ _ => (pg_name (i := 0) ndc_Part_init_0 rfl (Or.inl rfl))) (fun _ _ _ => (pe_call G_is_time (hr.mono (by decide)) (by rfl) T.m_is_time T.F_is_time.kp T.bb_is_time .nil passE0 (pa_cons (pv 0) pa_nil)))) pa_nil)))) (pss_one ps_never) pss_nil)
      (pss_cons (ps_fld (pv 0) (pe_callTy call_dictE (by rfl) T.b_dict boot_dict (pa_cons (pv 1) pa_nil)) rfl)
      (pss_cons (ps_fld (pv 0) (pe_callTy call_dictE (by rfl) T.b_dict boot_dict (pa_cons (pv 2) pa_nil)) rfl)
      (pss_cons (ps_fld (pv 0) (pv 3) rfl)
      (pss_cons (ps_fld (pv 0) (pv 4) rfl)
      (pss_one (ps_fld (pv 0) (pv 5) rfl))))))))), ?_⟩
    refine ⟨_, rfl, _, rfl, (by show 2 ≤ 1000; decide), fun t ht => ?_⟩
    have s0 : Same H (upd H t (.tup [.ref d1, .ref d2])) := Same.new ht
    refine ⟨t, rfl, ⟨_, SqT.of upd_same⟩, for_tup (xs := [.ref d1, .ref d2]) (fun _ σ' H' => ∃ z : Option V, σ' = [some (.ref x), some (.ref d1), some (.ref d2), some (.int 0), some (.int 0), some (.int 0), z, none] ∧ Same (upd H t (.tup [.ref d1, .ref d2])) H') ⟨none, rfl, Same.refl _⟩ (fun i σ' H' _ hp => ?_) (fun i v σ' H' hv hp => ?_) fun σ' H' hp => ?_⟩
    · obtain ⟨z, _, sm⟩ := hp; exact SqT.of (sm _ _ upd_same)
    · obtain ⟨z, rfl, sm⟩ := hp
      obtain ⟨d, rfl, hd⟩ : ∃ d, v = .ref d ∧ H d = some (.dT []) := by
        rcases List.mem_cons.mp (List.mem_of_getElem? hv) with e | e
        · exact ⟨d1, e, h1⟩
        · exact ⟨d2, by simpa using e, h2⟩
      exact ⟨_, rfl, d, rfl, sm _ _ (s0 _ _ hd), fun H2 sm2 => ⟨_, rfl, iteF ⟨_, rfl, sm.trans sm2⟩⟩⟩
    obtain ⟨z, rfl, sm⟩ := hp
    have sA : Same H H' := s0.trans sm
    clear sm s0
    refine ⟨_, rfl, _, rfl, (by show 2 ≤ 1000; decide), fun t2 ht2 => ?_⟩
    have s2 : Same H (upd H' t2 (.tup [.ref d1, .ref d2])) := sA.trans (Same.new ht2)
    refine ⟨t2, rfl, ⟨_, SqT.of upd_same⟩, for_tup (xs := [.ref d1, .ref d2]) (fun _ σ' G => ∃ z : Option V, σ' = [some (.ref x), some (.ref d1), some (.ref d2), some (.int 0), some (.int 0), some (.int 0), z, none] ∧ Same (upd H' t2 (.tup [.ref d1, .ref d2])) G) ⟨z, rfl, Same.refl _⟩ (fun i σ' G _ hp => ?_) (fun i v σ' G hv hp => ?_) fun σ' G hp => ?_⟩
    · obtain ⟨z, _, sm⟩ := hp; exact SqT.of (sm _ _ upd_same)
    · obtain ⟨z, rfl, sm⟩ := hp
      obtain ⟨d, rfl, hd⟩ : ∃ d, v = .ref d ∧ H d = some (.dT []) := by
        rcases List.mem_cons.mp (List.mem_of_getElem? hv) with e | e
        · exact ⟨d1, e, h1⟩
        · exact ⟨d2, by simpa using e, h2⟩
      have hd' : G d = some (.dT []) := sm _ _ (s2 _ _ hd)
      refine ⟨d, [], hd', fun o xs es ep D kt => ?_⟩
      have hvl := vals_vals D kt
      refine ⟨_, rfl, d, o, es, ep, rfl, upd_same, D.sys, D.ex, D.data, fun p hp => ?_⟩
      have pd : d ≠ p := by rintro rfl; rw [upd_same] at hp; cases hp
      refine ⟨p, d, o, [], es, ep, rfl, upd_same, by rw [upd_ne pd, upd_same], D.ex, D.data, hvl, for_no ⟨by rw [upd_ne pd, upd_same], Nat.le_refl _⟩ ?_⟩
      exact ⟨by rw [upd_ne pd, upd_same], ts_hold hd' (Same.new hp), ⟨_, rfl, sm.trans (sm_hold hd' (Same.new hp))⟩⟩
    obtain ⟨z2, rfl, sm⟩ := hp
    have sB : Same H G := s2.trans sm
    clear sm s2 sA
    refine ⟨_, rfl, _, rfl, _, rfl, (by show 3 ≤ 1000; decide), fun t3 ht3 => ⟨t3, rfl, ⟨_, SqT.of upd_same⟩, fun D3 hD3 => ?_⟩⟩
    refine comp_tpm (fun _ => .bl true) (fun σ => σ.length = 1) upd_same hD3 (by show 3 ≤ 1000; decide) rfl (fun v σ' G2 N hv ho sm q => ?_) fun G2 sm hl => ?_
    · have e : v = .int 0 := by simpa using hv
      subst e
      match σ', ho with
      | [_], _ => exact ⟨_, rfl, 0, rfl, by decide, by decide, q _ _ (Same.refl _) rfl⟩
    have sC : Same H G2 := sB.trans ((Same.new ht3).trans sm)
    refine ⟨D3, [true, true, true], rfl, SqL.of hl, _, rfl, iteF ?_⟩
    clear sm sB
    have x1 := sC _ _ hx
    refine ⟨_, rfl, d1, rfl, sC _ _ h1, fun e1 he1 => ⟨_, rfl, x, A.C_Part, dx, _, rfl, by rw [upd_ne (ne_of_none x1 he1)]; exact x1, T.cl_Part, T.na_Part_tells, (by show 0 < 1000; decide), ?_⟩⟩
    have n1 : x ≠ e1 := ne_of_none x1 he1
    have m2 : d2 ≠ x := ne_of h2 hx (by intro z; cases z)
    have m2' : d2 ≠ e1 := ne_of_none (sC _ _ h2) he1
    refine ⟨_, rfl, d2, rfl, by rw [upd_ne m2, upd_ne m2']; exact sC _ _ h2, fun e2 he2 => ?_⟩
    have n2 : x ≠ e2 := by rintro rfl; rw [upd_same] at he2; cases he2
    have n12 : e1 ≠ e2 := by rintro rfl; rw [upd_ne (Ne.symm n1), upd_same] at he2; cases he2
    have he2' : G2 e2 = none := by rw [upd_ne (Ne.symm n2), upd_ne (Ne.symm n12)] at he2; exact he2
    refine ⟨_, rfl, x, A.C_Part, dx, _, rfl, by rw [upd_ne n2, upd_same], T.cl_Part, T.na_Part_alone, (by show 1 < 1000; decide), ?_⟩
    refine ⟨_, rfl, _, rfl, x, A.C_Part, dx, _, rfl, upd_same, T.cl_Part, T.na_Part_rise, (by show 2 < 1000; decide), ?_⟩
    refine ⟨_, rfl, _, rfl, x, A.C_Part, dx, _, rfl, upd_same, T.cl_Part, T.na_Part_fall, (by show 3 < 1000; decide), ?_⟩
    refine ⟨_, rfl, _, rfl, x, A.C_Part, dx, _, rfl, upd_same, T.cl_Part, T.na_Part_wait, (by show 4 < 1000; decide), ?_⟩
    refine k _ ⟨dx, e1, e2, upd_same, ?_, ?_⟩ fun b o hb e => ?_
    · rw [upd_ne (Ne.symm n1), upd_ne (Ne.symm n1), upd_ne (Ne.symm n1), upd_ne (Ne.symm n1), upd_ne n12, upd_ne (Ne.symm n1), upd_same]
    · rw [upd_ne (Ne.symm n2), upd_ne (Ne.symm n2), upd_ne (Ne.symm n2), upd_ne (Ne.symm n2), upd_same]
    · have b1 : b ≠ e1 := ne_of_none (sC _ _ e) he1
      have b2 : b ≠ e2 := ne_of_none (sC _ _ e) he2'
      rw [upd_ne hb, upd_ne hb, upd_ne hb, upd_ne hb, upd_ne b2, upd_ne hb, upd_ne b1]
      exact sC _ _ e
theorem fld_tells {d1 d2 : Addr} : List.lookup ("tells" : Str) (partF d1 d2) = some (V.ref d1) := rfl
theorem fld_alone {d1 d2 : Addr} : List.lookup ("alone" : Str) (partF d1 d2) = some (V.ref d2) := rfl
def spSlots0 (A : Adr) : Sp := fun vs H Q _ => ∃ p, vs = [.ref p] ∧ Part0 A H p ∧ ∀ l H', H l = none → H' l = some (.lst []) → Same H H' → Q (.ref l) H'
theorem ok_Part_told_slots (T : Txt K mg A) : FnOk P w K mg base (CXE P w) 1 A.f_Part_told_slots A.d_Part_told_slots ["self"] (spSlots0 A) := by
  refine T.F_Part_told_slots.okN sc_Part_told_slots (fun vs H Q E h => ?_) (fun cdv Ar outer s H vs Q E hr h => ?_)
  · obtain ⟨p, rfl, hp, k⟩ := h
    rfl
  · obtain ⟨p, rfl, hp, k⟩ := h
    refine ⟨_, (pss_one (ps_ret (pe_callB (call_sortS rfl) (by rfl) T.b_sorted boot_sorted (pa_cons (pe_op (op_setOr (hu64 hr)) (pe_callTy (call_setD (hu64 hr)) (by rfl) T.b_set boot_set (pa_cons (pe_fldK K (pv 0)) pa_nil)) (pe_callTy (call_setD (hu64 hr)) (by rfl) T.b_set boot_set (pa_cons (pe_fldK K (pv 0)) pa_nil))) pa_nil)))), ?_⟩
    obtain ⟨dx, d1, d2, hp, h1, h2⟩ := hp
    refine ⟨_, rfl, p, A.C_Part, dx, _, _, rfl, hp, T.cl_Part, T.na_Part_tells, fld_tells, ?_⟩
    refine ⟨d1, [], rfl, h1, Nat.zero_le _, fun _ z => by simp at z, fun a zs ha pz _ => ?_⟩
    have ez : zs = [] := by have := pz.length_eq; simpa using this
    subst ez
    have s1 : ∀ o, Same H (upd H a o) := fun o => Same.new ha
    refine ⟨_, rfl, p, A.C_Part, dx, _, _, rfl, s1 _ _ _ hp, T.cl_Part, T.na_Part_alone, fld_alone, ?_⟩
    refine ⟨d2, [], rfl, s1 _ _ _ h2, Nat.zero_le _, fun _ z => by simp at z, fun b ws hb pw _ => ?_⟩
    have ew : ws = [] := by have := pw.length_eq; simpa using this
    subst ew
    have nab : a ≠ b := by rintro rfl; rw [upd_same] at hb; cases hb
    have hb0 : H b = none := by rw [upd_ne (Ne.symm nab)] at hb; exact hb
    have s2 : ∀ o o', Same H (upd (upd H a o) b o') := fun o o' => (s1 o).trans (Same.new (by rw [upd_ne (Ne.symm nab)]; exact hb0))
    refine ⟨a, b, [], [], rfl, rfl, by rw [upd_ne nab, upd_same], upd_same, nab, fun _ z => by simp at z, fun _ z => by simp at z, fun _ z => by simp at z, fun _ z => by simp at z, Nat.zero_le _, fun c vs hc bth nd => ?_⟩
    have ev : vs = [] := by
      cases vs with
      | nil => rfl
      | cons v vs => rcases bth.from_ v (by simp) with z | z <;> simp at z
    subst ev
    have nac : a ≠ c := by rintro rfl; rw [upd_ne nab, upd_same] at hc; cases hc
    have nbc : b ≠ c := by rintro rfl; rw [upd_same] at hc; cases hc
    have hc0 : H c = none := by rw [upd_ne (Ne.symm nbc), upd_ne (Ne.symm nac)] at hc; exact hc
    refine ⟨c, [], rfl, upd_same, fun _ z => by simp at z, fun _ z => by simp at z, by decide, fun l bs hl pb => ?_⟩
    have eb : bs = [] := by have := pb.length_eq; simpa using this
    subst eb
    have nal : a ≠ l := by rintro rfl; rw [upd_ne nac, upd_ne nab, upd_same] at hl; cases hl
    have nbl : b ≠ l := by rintro rfl; rw [upd_ne nbc, upd_same] at hl; cases hl
    have ncl : c ≠ l := by rintro rfl; rw [upd_same] at hl; cases hl
    have hl0 : H l = none := by rw [upd_ne (Ne.symm ncl), upd_ne (Ne.symm nbl), upd_ne (Ne.symm nal)] at hl; exact hl
    refine k l _ hl0 upd_same ?_
    intro q u e
    rw [upd_ne (ne_of_none e hl0), upd_ne (ne_of_none e hc0), upd_ne (ne_of_none e hb0), upd_ne (ne_of_none e ha)]
    exact e
def Parts0 (A : Adr) (H : Hp) (ps : List Addr) : Prop := ∀ p ∈ ps, Part0 A H p
theorem Part0.keep {A : Adr} {H H' : Hp} {p : Addr} (h : Part0 A H p) (s : Same H H') : Part0 A H' p := by
  obtain ⟨dx, d1, d2, a, b, c⟩ := h
  exact ⟨dx, d1, d2, s _ _ a, s _ _ b, s _ _ c⟩
def spParts0 (A : Adr) : Sp := fun vs H Q _ => ∃ (l : Addr) (ps : List Addr), vs = [.ref l] ∧ H l = some (.lst (ps.map V.ref)) ∧ 1 ≤ ps.length ∧ ps.length ≤ 9 ∧ Parts0 A H ps ∧ ∀ H', Same H H' → Q (.bl true) H'
theorem ok_is_part_list (T : Txt K mg A) : FnOk P w K mg base (CXE P w) 3 A.f_is_part_list A.d_is_part_list ["thing"] (spParts0 A) := by
  have G_Part_told_slots := ok_Part_told_slots (P := P) (w := w) (base := base) T
  refine T.F_is_part_list.okN sc_is_part_list (fun vs H Q E h => ?_) (fun cdv Ar outer s H vs Q E hr h => ?_)
  · obtain ⟨l, ps, rfl, hl, h1, h9, hp, k⟩ := h
    rfl
  · obtain ⟨l, ps, rfl, hl, h1, h9, hp, k⟩ := h
    refine ⟨_, (pss_cons (ps_if (PW.pt (pw_or (pt_not (pt_val (pe_callB (call_isiT K) (by rfl) T.b_isinstance boot_isinstance (pa_cons (pv 0) (pa_cons (pe_ty (by rfl) T.b_list boot_list) pa_nil))))) (pw_or1 (pt_not (pt_chain op_le op_le pe_int (pe_callB (call_lenK K) (by rfl) T.b_len PySem.boot_len (pa_cons (pv 0) pa_nil)) (pe_gint (by rfl) T.g_MOST_PARTS)))))) (pss_one (ps_ret pe_bl)) pss_nil)
      (pss_cons (ps_if (pt_not (pt_val (pe_callB (call_allB K rfl) (by rfl) T.b_all boot_all (pa_cons (pe_comp ["part"] [none] rfl (pi_listK K (pv 0)) (fun _ _ _ => (pg_name (i := 0) ndc_is_part_list_0 rfl (Or.inl rfl))) (fun _ _ _ => (pe_callB (call_isiC K) (by rfl) T.b_isinstance boot_isinstance (pa_cons (pv 0) (pa_cons (pe_glob (v := V.ref _) (by rfl) T.c_Part rfl) pa_nil))))) pa_nil)))) (pss_one (ps_ret pe_bl)) pss_nil)
      (pss_cons (ps_set (i := 1) sc_is_part_list.nd rfl (Or.inl rfl) (pe_lstS pa_nil))
      (pss_cons (ps_for PassesOwn.never rfl (pi_listK K (pv 0)) (pg_name (i := 2) sc_is_part_list.nd rfl (Or.inl rfl)) (pss_one (ps_expr (pe_bmK K PySem.F.plainAttrs_list PySem.F.slot_list_extend PySem.F.type_list_extend mt_extend (pv 1) (pa_cons (pe_meth0 (pv 2) T.cl_Part T.me_Part_told_slots G_Part_told_slots (hr.mono (by decide)) T.bb_Part_told_slots .nil passE0) pa_nil)))))
      (pss_one (ps_ret (pe_cmpR op_eq (pe_callB (call_lenK K) (by rfl) T.b_len PySem.boot_len (pa_cons (pv 1) pa_nil)) (pe_callB call_lenS (by rfl) T.b_len PySem.boot_len (pa_cons (pe_callTy (call_setL rfl (hu64 hr)) (by rfl) T.b_set boot_set (pa_cons (pv 1) pa_nil)) pa_nil)) (nomark _)))))))), ?_⟩
    refine ⟨_, rfl, _, _, _, true, rfl, .lst hl, kit_ll, true, rfl, iteF ?_⟩
    have b1 : decide ((1 : Int) ≤ ((ps.map V.ref).length : Nat)) = true := decide_eq_true (by rw [List.length_map]; omega)
    have b9 : decide (((ps.map V.ref).length : Nat) ≤ (9 : Int)) = true := decide_eq_true (by rw [List.length_map]; omega)
    refine ⟨_, rfl, _, _, rfl, .inl (SqL.of hl), _, _, rfl, rfl, _, rfl, ?_⟩
    rw [b1]
    refine iteT ⟨_, _, rfl, rfl, _, rfl, ?_⟩
    rw [b9]
    refine iteF ?_
    refine ⟨_, rfl, l, rfl, ⟨_, SqL.of hl⟩, fun D hD => ?_⟩
    refine comp_mp (fun _ => .bl true) (fun σ => σ.length = 1) (SqL.of hl) hD (by rw [List.length_map]; omega) rfl (fun v σ' G N hv ho sm q => ?_) fun G sm hDl => ?_
    · obtain ⟨p, hpm, rfl⟩ := List.mem_map.mp hv
      obtain ⟨dx, d1, d2, e, _, _⟩ := (hp p hpm).keep sm
      match σ', ho with
      | [_], _ => exact ⟨_, rfl, _, _, _, true, rfl, T.ty_Part _ _ _ _ e, T.kt_Part, q _ _ (Same.refl _) rfl⟩
    refine ⟨D, ps.map (fun _ => true), rfl, SqL.of (by rw [hDl, List.map_map, List.map_map]; rfl), _, rfl, ?_⟩
    rw [show (ps.map fun _ => true).all id = true by simp]
    refine iteF ?_
    refine ⟨by decide, fun S hS => ?_⟩
    have sS : Same H (upd G S (.lst [])) := sm.trans (Same.new hS)
    refine ⟨_, rfl, l, rfl, ⟨_, SqL.of (sS _ _ hl)⟩, for_list (xs := ps.map V.ref) (fun _ σ' G' => ∃ z : Option V, σ' = [some (.ref l), some (.ref S), z] ∧ Same (upd G S (.lst [])) G') ⟨none, rfl, Same.refl _⟩ (fun i σ' G' _ hq => ?_) (fun i v σ' G' hv hq => ?_) fun σ' G' hq => ?_⟩
    · obtain ⟨z, _, s2⟩ := hq; exact SqL.of (s2 _ _ (sS _ _ hl))
    · obtain ⟨z, rfl, s2⟩ := hq
      obtain ⟨p, hpm, rfl⟩ := List.mem_map.mp (List.mem_of_getElem? hv)
      have hS2 := s2 _ _ upd_same
      have pk := (hp p hpm).keep (sS.trans s2)
      obtain ⟨dx, d1, d2, e, e1, e2⟩ := id pk
      refine ⟨_, rfl, .inl ⟨rfl, _, SqL.of hS2⟩, _, rfl, p, dx, _, rfl, e, rfl, p, rfl, pk, fun b G2 hb hbl s3 => ?_⟩
      refine ⟨S, b, [], [], rfl, rfl, s3 _ _ hS2, hbl, by decide, _, rfl, fun c u ec => ?_⟩
      by_cases hc : c = S
      · subst hc; rw [upd_same] at ec ⊢; exact ec
      · rw [upd_ne hc]; exact s3 _ _ (s2 _ _ ec)
    obtain ⟨z, rfl, s2⟩ := hq
    have hS2 : G' S = some (.lst []) := s2 _ _ upd_same
    refine ⟨_, rfl, S, [], rfl, .inl (SqL.of hS2), _, rfl, S, [], rfl, hS2, fun _ y => by simp at y, fun _ y => by simp at y, Nat.zero_le _, fun q zs hq fs nd => ?_⟩
    have ez : zs = [] := by
      cases zs with
      | nil => rfl
      | cons v vs => have := fs.from_ v (by simp); simp at this
    subst ez
    exact ⟨q, [], rfl, upd_same, fun _ y => by simp at y, rfl, k _ ((sS.trans s2).trans (Same.new hq))⟩
def cueF (n : Int) (L : Addr) (st : Bool) (fo : V) : List (Str × V) := [("number", .int n), ("parts", .ref L), ("stops", .bl st), ("follow", fo)]
def FoOk (fo : V) : Prop := fo = .non ∨ ∃ f : Int, fo = .int f ∧ 0 ≤ f ∧ f ≤ 1000000000
def Cue0 (A : Adr) (H : Hp) (c : Addr) (n : Int) (st : Bool) (fo : V) : Prop := ∃ dx L ps, H c = some (.ins A.C_Cue dx (cueF n L st fo)) ∧ H L = some (.lst (ps.map V.ref)) ∧ 1 ≤ ps.length ∧ Parts0 A H ps
theorem Cue0.keep {A : Adr} {H H' : Hp} {c : Addr} {n : Int} {st : Bool} {fo : V} (h : Cue0 A H c n st fo) (s : Same H H') : Cue0 A H' c n st fo := by
  obtain ⟨dx, L, ps, a, b, l, d⟩ := h
  exact ⟨dx, L, ps, s _ _ a, s _ _ b, l, fun p hp => (d p hp).keep s⟩
def Cue1 (A : Adr) (H : Hp) (c L : Addr) (n : Int) (st : Bool) (fo : V) : Prop := ∃ dx ps, H c = some (.ins A.C_Cue dx (cueF n L st fo)) ∧ H L = some (.lst (ps.map V.ref)) ∧ 1 ≤ ps.length ∧ Parts0 A H ps
def spCue0 (A : Adr) : Sp := fun vs H Q _ => ∃ (x dx l : Addr) (n : Int) (st : Bool) (fo : V) (ps : List Addr), vs = [.ref x, .int n, .ref l, .bl st, fo] ∧ H x = some (.ins A.C_Cue dx []) ∧ 1 ≤ n ∧ n ≤ 1000000000 ∧ FoOk fo ∧ H l = some (.lst (ps.map V.ref)) ∧ 1 ≤ ps.length ∧ ps.length ≤ 9 ∧ Parts0 A H ps ∧
  ∀ H' L, H L = none → Cue1 A H' x L n st fo → (∀ b o, b ≠ x → H b = some o → H' b = some o) → Q .non H'
theorem ok_Cue_init (T : Txt K mg A) : FnOk P w K mg base (CXE P w) 4 A.f_Cue_init A.d_Cue_init ["self", "number", "parts", "stops", "follow"] (spCue0 A) := by
  have G_is_cue_number := ok_is_cue_number (P := P) (w := w) (base := base) T
  have G_is_part_list := ok_is_part_list (P := P) (w := w) (base := base) T
  have G_is_time := ok_is_time (P := P) (w := w) (base := base) T
  refine T.F_Cue_init.okN sc_Cue_init (fun vs H Q E h => ?_) (fun cdv Ar outer s H vs Q E hr h => ?_)
  · obtain ⟨x, dx, l, n, st, fo, ps, rfl, hx, hn1, hn2, hfo, hl, h1, h9, hp, k⟩ := h
    rfl
  · obtain ⟨x, dx, l, n, st, fo, ps, rfl, hx, hn1, hn2, hfo, hl, h1, h9, hp, k⟩ := h
    refine ⟨_, (pss_cons (ps_if (pt_not (pt_val (pe_call G_is_cue_number (hr.mono (by decide)) (by rfl) T.m_is_cue_number T.F_is_cue_number.kp T.bb_is_cue_number .nil passE0 (pa_cons (pv 1) pa_nil)))) (pss_one ps_never) pss_nil)
      (pss_cons (ps_if (pt_not (pt_val (pe_call G_is_part_list (hr.mono (by decide)) (by rfl) T.m_is_part_list T.F_is_part_list.kp T.bb_is_part_list .nil passE0 (pa_cons (pv 2) pa_nil)))) (pss_one ps_never) pss_nil)
      (pss_cons (ps_if (PW.pt (pw_and (pt_cmp (pc_notN (pv 4))) (pw_and1 (pt_not (pt_val (pe_call G_is_time (hr.mono (by decide)) (by rfl) T.m_is_time T.F_is_time.kp T.bb_is_time .nil passE0 (pa_cons (pv 4) pa_nil))))))) (pss_one ps_never) pss_nil)
      (pss_cons (ps_fld (pv 0) (pv 1) rfl)
      (pss_cons (ps_fld (pv 0) (pe_callTy (call_listK K) (by rfl) T.b_list boot_list (pa_cons (pv 2) pa_nil)) rfl)
      (pss_cons (ps_fld (pv 0) (pv 3) rfl)
      (pss_one (ps_fld (pv 0) (pv 4) rfl)))))))), ?_⟩
    refine ⟨_, rfl, n, rfl, hn1, hn2, _, rfl, iteF ?_⟩
    refine ⟨_, rfl, l, ps, rfl, hl, h1, h9, hp, fun H1 s1 => ⟨_, rfl, iteF ?_⟩⟩
    have ok : ∀ Q2 : Bool → Hp → Prop, Q2 false H1 → (tAnd (tB (tNotN (tVar 4))) (tNot (tB (tCall spTime0 [] E0 (tCons (tVar 4) tNil))))) [some (.ref x), some (.int n), some (.ref l), some (.bl st), some fo] H1 Q2 := fun Q2 q => by
      rcases hfo with rfl | ⟨f, rfl, f0, f1⟩
      · exact ⟨_, rfl, _, rfl, iteF q⟩
      · exact ⟨_, rfl, _, rfl, iteT ⟨_, rfl, f, rfl, f0, f1, _, rfl, q⟩⟩
    refine ok _ (iteF ?_)
    have x1 := s1 _ _ hx
    have l1 := s1 _ _ hl
    have nlx : l ≠ x := ne_of l1 x1 (by intro z; cases z)
    refine ⟨_, rfl, _, rfl, x, A.C_Cue, dx, _, rfl, x1, T.cl_Cue, T.na_Cue_number, (by show 0 < 1000; decide), ?_⟩
    refine ⟨_, rfl, l, _, rfl, SqL.of (by rw [upd_ne nlx]; exact l1), fun L hL => ?_⟩
    have nLx : x ≠ L := by rintro rfl; rw [upd_same] at hL; cases hL
    have hL1 : H1 L = none := by rw [upd_ne (Ne.symm nLx)] at hL; exact hL
    refine ⟨_, rfl, x, A.C_Cue, dx, _, rfl, by rw [upd_ne nLx, upd_same], T.cl_Cue, T.na_Cue_parts, (by show 1 < 1000; decide), ?_⟩
    refine ⟨_, rfl, _, rfl, x, A.C_Cue, dx, _, rfl, upd_same, T.cl_Cue, T.na_Cue_stops, (by show 2 < 1000; decide), ?_⟩
    refine ⟨_, rfl, _, rfl, x, A.C_Cue, dx, _, rfl, upd_same, T.cl_Cue, T.na_Cue_follow, (by show 3 < 1000; decide), ?_⟩
    have kp : ∀ b o, b ≠ x → H b = some o → (upd (upd (upd (upd (upd H1 x (.ins A.C_Cue dx (putF "number" (.int n) []))) L (.lst (ps.map V.ref))) x (.ins A.C_Cue dx (putF "parts" (.ref L) (putF "number" (.int n) [])))) x (.ins A.C_Cue dx (putF "stops" (.bl st) (putF "parts" (.ref L) (putF "number" (.int n) []))))) x (.ins A.C_Cue dx (putF "follow" fo (putF "stops" (.bl st) (putF "parts" (.ref L) (putF "number" (.int n) [])))))) b = some o := fun b o hb e => by
      rw [upd_ne hb, upd_ne hb, upd_ne hb, upd_ne (ne_of_none (s1 _ _ e) hL1), upd_ne hb]
      exact s1 _ _ e
    refine k _ L (s1.free hL1) ⟨dx, ps, upd_same, ?_, h1, fun p hpm => ?_⟩ kp
    · rw [upd_ne (Ne.symm nLx), upd_ne (Ne.symm nLx), upd_ne (Ne.symm nLx), upd_same]
    · obtain ⟨dp, d1, d2, e, e1, e2⟩ := hp p hpm
      have np : ∀ {q o}, H q = some o → o ≠ .ins A.C_Cue dx [] → q ≠ x := fun a b z => by rw [z, hx] at a; exact b (Option.some.inj a).symm
      exact ⟨dp, d1, d2, kp _ _ (np e (fun z => by have := congrArg (fun o => match o with | HO.ins _ _ fs => fs.length | _ => 0) z; simp [partF] at this)) e, kp _ _ (np e1 (by intro z; cases z)) e1, kp _ _ (np e2 (by intro z; cases z)) e2⟩
structure Cu where
  n : Int
  st : Bool
  fo : V
def Cues0 (A : Adr) (H : Hp) (cs : List Addr) (us : List Cu) : Prop := Paired (fun c (u : Cu) => Cue0 A H c u.n u.st u.fo) cs us
theorem Cues0.keep {A : Adr} {H H' : Hp} {cs : List Addr} {us : List Cu} (h : Cues0 A H cs us) (s : Same H H') : Cues0 A H' cs us := Paired.mapP h fun _ _ q => q.keep s
theorem paired_mem {α β : Type} {F : α → β → Prop} : ∀ {as : List α} {bs : List β}, Paired F as bs → ∀ {a}, a ∈ as → ∃ b, b ∈ bs ∧ F a b
  | _, _, .nil, _, h => by simp at h
  | _, _, .cons q t, a, h => by
    rcases List.mem_cons.mp h with e | h
    · subst e; exact ⟨_, List.mem_cons_self, q⟩
    · obtain ⟨b, hb, f⟩ := paired_mem t h
      exact ⟨b, List.mem_cons_of_mem _ hb, f⟩
theorem paired_at {α β : Type} {F : α → β → Prop} : ∀ {as : List α} {bs : List β}, Paired F as bs → ∀ {i : Nat} {a : α}, as[i]? = some a → ∃ b, bs[i]? = some b ∧ F a b
  | _, _, .nil, _, _, h => by simp at h
  | _, _, .cons q t, 0, a, h => by simp only [List.getElem?_cons_zero, Option.some.injEq] at h; subst h; exact ⟨_, rfl, q⟩
  | _, _, .cons q t, i + 1, a, h => by simp only [List.getElem?_cons_succ] at h ⊢; exact paired_at t h
def Rising (us : List Cu) : Prop := us.Pairwise fun a b => a.n < b.n
def spList0 (A : Adr) : Sp := fun vs H Q _ => ∃ (l : Addr) (cs : List Addr) (us : List Cu), vs = [.ref l] ∧ H l = some (.lst (cs.map V.ref)) ∧ cs.length ≤ 900 ∧ Cues0 A H cs us ∧ Rising us ∧ ∀ m H', H m = none → H' m = some (.lst (cs.map V.ref)) → Same H H' → Q (.ref m) H'
theorem ok_cue_list (T : Txt K mg A) : FnOk P w K mg base (CXE P w) 1 A.f_cue_list A.d_cue_list ["cues"] (spList0 A) := by
  refine T.F_cue_list.okN sc_cue_list (fun vs H Q E h => ?_) (fun cdv Ar outer s H vs Q E hr h => ?_)
  · obtain ⟨l, cs, us, rfl, hl, hz, hc, hri, k⟩ := h
    rfl
  · obtain ⟨l, cs, us, rfl, hl, hz, hc, hri, k⟩ := h
    refine ⟨_, (pss_cons (ps_if (PW.pt (pw_or (pt_not (pt_val (pe_callB (call_isiT K) (by rfl) T.b_isinstance boot_isinstance (pa_cons (pv 0) (pa_cons (pe_ty (by rfl) T.b_list boot_list) pa_nil))))) (pw_or1 (pt_not (pt_val (pe_callB (call_allB K rfl) (by rfl) T.b_all boot_all (pa_cons (pe_comp ["cue"] [none] rfl (pi_listK K (pv 0)) (fun _ _ _ => (pg_name (i := 0) ndc_cue_list_0 rfl (Or.inl rfl))) (fun _ _ _ => (pe_callB (call_isiC K) (by rfl) T.b_isinstance boot_isinstance (pa_cons (pv 0) (pa_cons (pe_glob (v := V.ref _) (by rfl) T.c_Cue rfl) pa_nil))))) pa_nil))))))) (pss_one ps_never) pss_nil)
      (pss_cons (ps_for PassesOwn.never rfl (pi_range2 (by rfl) T.b_range (pa_cons pe_int (pa_cons (pe_callB (call_lenK K) (by rfl) T.b_len PySem.boot_len (pa_cons (pv 0) pa_nil)) pa_nil))) (pg_name (i := 1) sc_cue_list.nd rfl (Or.inl rfl)) (pss_one (ps_if (pt_cmpR op_le (pe_fldK K (pe_ix (ix_listK K) (pv 0) (pv 1) (fun _ _ => rfl))) (pe_fldK K (pe_ix (ix_listK K) (pv 0) (pe_op op_sub (pv 1) pe_int) (fun _ _ => rfl))) (nomark _)) (pss_one ps_never) pss_nil)))
      (pss_one (ps_ret (pe_callTy (call_listK K) (by rfl) T.b_list boot_list (pa_cons (pv 0) pa_nil)))))), ?_⟩
    refine ⟨_, rfl, _, _, _, true, rfl, .lst hl, kit_ll, true, rfl, iteF ?_⟩
    refine ⟨_, rfl, l, rfl, ⟨_, SqL.of hl⟩, fun D hD => ?_⟩
    refine comp_mp (fun _ => .bl true) (fun σ => σ.length = 1) (SqL.of hl) hD (by rw [List.length_map]; omega) rfl (fun v σ' G N hv ho sm q => ?_) fun G sm hDl => ?_
    · obtain ⟨c, hcm, rfl⟩ := List.mem_map.mp hv
      obtain ⟨u, _, dx, L, ps, e, _⟩ := paired_mem (hc.keep sm) hcm
      match σ', ho with
      | [_], _ => exact ⟨_, rfl, _, _, _, true, rfl, T.ty_Cue _ _ _ _ e, T.kt_Cue, q _ _ (Same.refl _) rfl⟩
    refine ⟨D, cs.map (fun _ => true), rfl, SqL.of (by rw [hDl, List.map_map, List.map_map]; rfl), _, rfl, ?_⟩
    rw [show (cs.map fun _ => true).all id = true by simp]
    refine iteF ?_
    have lG := sm _ _ hl
    have ln : (cs.map V.ref).length = cs.length := List.length_map _
    refine ⟨_, rfl, l, _, rfl, .inl (SqL.of lG), 1, _, rfl, ⟨by decide, by decide, by rw [ln]; omega, by rw [ln]; omega⟩, ?_⟩
    refine for_range (fun _ σ' G' => ∃ z : Option V, σ' = [some (.ref l), z] ∧ G' = G) ⟨none, rfl, rfl⟩ (fun i σ' G' hi hq => ?_) fun σ' G' hq => ?_
    · obtain ⟨z, rfl, rfl⟩ := hq
      rw [ln] at hi
      have i1 : i + 1 < cs.length := by omega
      have g1 : cs[i + 1]? = some cs[i + 1] := List.getElem?_eq_getElem i1
      have g0 : cs[i]? = some cs[i] := List.getElem?_eq_getElem (by omega)
      obtain ⟨u1, v1, dx1, L1, ps1, e1, _⟩ := paired_at (hc.keep sm) g1
      obtain ⟨u0, v0, dx0, L0, ps0, e0, _⟩ := paired_at (hc.keep sm) g0
      have lt : u0.n < u1.n := by
        have := List.pairwise_iff_getElem.mp hri i (i + 1) (List.getElem?_eq_some_iff.mp v0).1 (List.getElem?_eq_some_iff.mp v1).1 (by omega)
        rw [(List.getElem?_eq_some_iff.mp v0).2, (List.getElem?_eq_some_iff.mp v1).2] at this
        exact this
      have a1 : atI (cs.map V.ref) (1 + (i : Int)) = some (.ref cs[i + 1]) := by
        rw [show (1 + (i : Int)) = ((i + 1 : Nat) : Int) from by omega]
        exact atI_nat (by rw [List.getElem?_map, g1]; rfl)
      have a0 : atI (cs.map V.ref) (1 + (i : Int) - 1) = some (.ref cs[i]) := by
        rw [show (1 + (i : Int) - 1) = ((i : Nat) : Int) from by omega]
        exact atI_nat (by rw [List.getElem?_map, g0]; rfl)
      refine ⟨_, rfl, _, rfl, l, _, _, _, rfl, rfl, SqL.of lG, a1, cs[i + 1], A.C_Cue, dx1, _, _, rfl, e1, T.cl_Cue, T.na_Cue_number, rfl, ?_⟩
      refine ⟨_, rfl, _, rfl, _, _, rfl, rfl, l, _, _, _, rfl, rfl, SqL.of lG, a0, cs[i], A.C_Cue, dx0, _, _, rfl, e0, T.cl_Cue, T.na_Cue_number, rfl, ?_⟩
      refine ⟨_, _, rfl, rfl, _, rfl, ?_⟩
      rw [show decide (u1.n ≤ u0.n) = false from decide_eq_false (by omega)]
      exact iteF ⟨_, rfl, rfl⟩
    obtain ⟨z, rfl, rfl⟩ := hq
    refine ⟨_, rfl, l, _, rfl, SqL.of lG, fun m hm => ?_⟩
    have hm0 : H m = none := sm.free hm
    exact k m _ hm0 upd_same (sm.trans (Same.new hm))
def spChecked0 (A : Adr) : Sp := fun vs H Q _ => ∃ (l : Addr) (n : Int) (cs : List Addr) (us : List Cu), vs = [.ref l, .int n] ∧ 0 ≤ n ∧ H l = some (.lst (cs.map V.ref)) ∧ cs.length ≤ 900 ∧ Cues0 A H cs us ∧ Rising us ∧ ∀ m H', H m = none → H' m = some (.lst (cs.map V.ref)) → Same H H' → Q (.ref m) H'
theorem ok_checked (T : Txt K mg A) : FnOk P w K mg base (CXE P w) 2 A.f_checked A.d_checked ["cues", "number"] (spChecked0 A) := by
  have G_cue_list := ok_cue_list (P := P) (w := w) (base := base) T
  have G_is_whole := ok_is_whole (P := P) (w := w) (base := base) T
  refine T.F_checked.okN sc_checked (fun vs H Q E h => ?_) (fun cdv Ar outer s H vs Q E hr h => ?_)
  · obtain ⟨l, n, cs, us, rfl, hn, hl, hz, hc, hri, k⟩ := h
    rfl
  · obtain ⟨l, n, cs, us, rfl, hn, hl, hz, hc, hri, k⟩ := h
    refine ⟨_, (pss_cons (ps_set (i := 2) sc_checked.nd rfl (Or.inl rfl) (pe_call G_cue_list (hr.mono (by decide)) (by rfl) T.m_cue_list T.F_cue_list.kp T.bb_cue_list .nil passE0 (pa_cons (pv 0) pa_nil)))
      (pss_cons (ps_if (PW.pt (pw_or (pt_not (pt_val (pe_call G_is_whole (hr.mono (by decide)) (by rfl) T.m_is_whole T.F_is_whole.kp T.bb_is_whole .nil passE0 (pa_cons (pv 1) pa_nil)))) (pw_or1 (pt_cmpR op_lt (pv 1) pe_int (nomark _))))) (pss_one ps_never) pss_nil)
      (pss_one (ps_ret (pv 2))))), ?_⟩
    refine ⟨_, rfl, l, cs, us, rfl, hl, hz, hc, hri, fun m H1 hm hml s1 => ?_⟩
    refine ⟨_, rfl, n, rfl, _, rfl, iteF ?_⟩
    refine ⟨_, rfl, _, _, rfl, rfl, _, rfl, ?_⟩
    rw [show decide (n < 0) = false from decide_eq_false (by omega)]
    refine iteF ?_
    exact ⟨_, rfl, k m H1 hm hml s1⟩
def LeastOr0 (ns : List Int) (m : Int) : Prop := (ns = [] → m = 0) ∧ (ns ≠ [] → m ∈ ns ∧ ∀ a ∈ ns, m ≤ a)
def MostOr0 (ns : List Int) (m : Int) : Prop := (ns = [] → m = 0) ∧ (ns ≠ [] → m ∈ ns ∧ ∀ a ∈ ns, m ≥ a)
def nsAbove (us : List Cu) (n : Int) : List Int := (us.filter fun u => decide (u.n > n)).map (·.n)
def nsBelow (us : List Cu) (n : Int) : List Int := (us.filter fun u => decide (u.n < n)).map (·.n)
def spAbove0 (A : Adr) : Sp := fun vs H Q _ => ∃ (l : Addr) (n : Int) (cs : List Addr) (us : List Cu), vs = [.ref l, .int n] ∧ 0 ≤ n ∧ H l = some (.lst (cs.map V.ref)) ∧ cs.length ≤ 900 ∧ Cues0 A H cs us ∧ Rising us ∧ ∀ m H', LeastOr0 (nsAbove us n) m → Same H H' → Q (.int m) H'
theorem ok_above (T : Txt K mg A) : FnOk P w K mg base (CXE P w) 3 A.f_above A.d_above ["cues", "number"] (spAbove0 A) := by
  have G_checked := ok_checked (P := P) (w := w) (base := base) T
  refine T.F_above.okN sc_above (fun vs H Q E h => ?_) (fun cdv Ar outer s H vs Q E hr h => ?_)
  · obtain ⟨l, n, cs, us, rfl, hn, hl, hz, hc, hri, k⟩ := h
    rfl
  · obtain ⟨l, n, cs, us, rfl, hn, hl, hz, hc, hri, k⟩ := h
    refine ⟨_, (pss_one (ps_ret (pe_callBK (call_minD K rfl) (by rfl) T.b_min boot_min (pa_cons (pe_compIf ["cue", "number"] [none, some 1] rfl (pi_listK K (pe_call G_checked (hr.mono (by decide)) (by rfl) T.m_checked T.F_checked.kp T.bb_checked .nil passE0 (pa_cons (pv 0) (pa_cons (pv 1) pa_nil)))) (fun _ _ _ => (pg_name (i := 0) ndc_above_0 rfl (Or.inl rfl))) (fun _ _ _ => (pt_cmpR op_gt (pe_fldK K (pv 0)) (pv 1) (nomark _))) (fun _ _ _ => (pe_fldK K (pv 0)))) pa_nil) (pk_cons pe_int pk_nil)))), ?_⟩
    refine ⟨_, rfl, _, rfl, l, n, cs, us, rfl, hn, hl, hz, hc, hri, fun m H1 hm hml s1 => ?_⟩
    refine ⟨m, rfl, ⟨_, SqL.of hml⟩, fun D hD => ?_⟩
    have hcl : us.length = (cs.map V.ref).length := by rw [List.length_map]; exact (Paired.length hc).symm
    refine compIf_pr (fun u : Cu => decide (u.n > n)) (fun u => .int u.n) (fun σ => ∃ z, σ = [z, some (.int n)]) (SqL.of hml) hD (by rw [List.length_map]; omega) hcl ⟨none, rfl⟩ (fun i v u σ' G N hv hu ho sm q => ?_) fun G sm hDl => ?_
    · obtain ⟨z, rfl⟩ := ho
      rw [List.getElem?_map] at hv
      cases hci : cs[i]? with
      | none => rw [hci] at hv; cases hv
      | some c =>
        rw [hci] at hv
        obtain rfl : V.ref c = v := by simpa using hv
        obtain ⟨u', hu', dx, L, ps, e, _⟩ := paired_at (hc.keep (s1.trans sm)) hci
        rw [hu] at hu'
        cases hu'
        have q' := q [some (.ref c), some (.int n)] G (Same.refl _) ⟨_, rfl⟩
        refine ⟨_, rfl, c, A.C_Cue, dx, _, _, rfl, e, T.cl_Cue, T.na_Cue_number, rfl, _, rfl, _, _, rfl, rfl, _, rfl, ?_⟩
        by_cases hb : u.n > n
        · rw [decide_eq_true hb] at q'
          rw [show decide (n < u.n) = true from decide_eq_true hb]
          exact iteT ⟨_, rfl, c, A.C_Cue, dx, _, _, rfl, e, T.cl_Cue, T.na_Cue_number, rfl, q'⟩
        · rw [decide_eq_false hb] at q'
          rw [show decide (n < u.n) = false from decide_eq_false hb]
          exact iteF q'
    exact ⟨D, nsAbove us n, 0, rfl, rfl, SqL.of (by rw [hDl]; unfold nsAbove; rw [List.map_map]; rfl), fun m' g1 g2 => k m' G ⟨g1, g2⟩ (s1.trans sm)⟩
def spBelow0 (A : Adr) : Sp := fun vs H Q _ => ∃ (l : Addr) (n : Int) (cs : List Addr) (us : List Cu), vs = [.ref l, .int n] ∧ 0 ≤ n ∧ H l = some (.lst (cs.map V.ref)) ∧ cs.length ≤ 900 ∧ Cues0 A H cs us ∧ Rising us ∧ ∀ m H', MostOr0 (nsBelow us n) m → Same H H' → Q (.int m) H'
theorem ok_below (T : Txt K mg A) : FnOk P w K mg base (CXE P w) 3 A.f_below A.d_below ["cues", "number"] (spBelow0 A) := by
  have G_checked := ok_checked (P := P) (w := w) (base := base) T
  refine T.F_below.okN sc_below (fun vs H Q E h => ?_) (fun cdv Ar outer s H vs Q E hr h => ?_)
  · obtain ⟨l, n, cs, us, rfl, hn, hl, hz, hc, hri, k⟩ := h
    rfl
  · obtain ⟨l, n, cs, us, rfl, hn, hl, hz, hc, hri, k⟩ := h
    refine ⟨_, (pss_one (ps_ret (pe_callBK (call_maxD K rfl) (by rfl) T.b_max boot_max (pa_cons (pe_compIf ["cue", "number"] [none, some 1] rfl (pi_listK K (pe_call G_checked (hr.mono (by decide)) (by rfl) T.m_checked T.F_checked.kp T.bb_checked .nil passE0 (pa_cons (pv 0) (pa_cons (pv 1) pa_nil)))) (fun _ _ _ => (pg_name (i := 0) ndc_below_0 rfl (Or.inl rfl))) (fun _ _ _ => (pt_cmpR op_lt (pe_fldK K (pv 0)) (pv 1) (nomark _))) (fun _ _ _ => (pe_fldK K (pv 0)))) pa_nil) (pk_cons pe_int pk_nil)))), ?_⟩
    refine ⟨_, rfl, _, rfl, l, n, cs, us, rfl, hn, hl, hz, hc, hri, fun m H1 hm hml s1 => ?_⟩
    refine ⟨m, rfl, ⟨_, SqL.of hml⟩, fun D hD => ?_⟩
    have hcl : us.length = (cs.map V.ref).length := by rw [List.length_map]; exact (Paired.length hc).symm
    refine compIf_pr (fun u : Cu => decide (u.n < n)) (fun u => .int u.n) (fun σ => ∃ z, σ = [z, some (.int n)]) (SqL.of hml) hD (by rw [List.length_map]; omega) hcl ⟨none, rfl⟩ (fun i v u σ' G N hv hu ho sm q => ?_) fun G sm hDl => ?_
    · obtain ⟨z, rfl⟩ := ho
      rw [List.getElem?_map] at hv
      cases hci : cs[i]? with
      | none => rw [hci] at hv; cases hv
      | some c =>
        rw [hci] at hv
        obtain rfl : V.ref c = v := by simpa using hv
        obtain ⟨u', hu', dx, L, ps, e, _⟩ := paired_at (hc.keep (s1.trans sm)) hci
        rw [hu] at hu'
        cases hu'
        have q' := q [some (.ref c), some (.int n)] G (Same.refl _) ⟨_, rfl⟩
        refine ⟨_, rfl, c, A.C_Cue, dx, _, _, rfl, e, T.cl_Cue, T.na_Cue_number, rfl, _, rfl, _, _, rfl, rfl, _, rfl, ?_⟩
        by_cases hb : u.n < n
        · rw [decide_eq_true hb] at q'
          rw [show decide (u.n < n) = true from decide_eq_true hb]
          exact iteT ⟨_, rfl, c, A.C_Cue, dx, _, _, rfl, e, T.cl_Cue, T.na_Cue_number, rfl, q'⟩
        · rw [decide_eq_false hb] at q'
          rw [show decide (u.n < n) = false from decide_eq_false hb]
          exact iteF q'
    exact ⟨D, nsBelow us n, 0, rfl, rfl, SqL.of (by rw [hDl]; unfold nsBelow; rw [List.map_map]; rfl), fun m' g1 g2 => k m' G ⟨g1, g2⟩ (s1.trans sm)⟩
def CueAt0 (A : Adr) (cs : List Addr) (us : List Cu) (n : Int) (v : V) : Prop := (v = .non ∧ ∀ u ∈ us, u.n ≠ n) ∨ ∃ (i : Nat) (c : Addr) (u : Cu), v = .ref c ∧ cs[i]? = some c ∧ us[i]? = some u ∧ u.n = n
def spCueAt0 (A : Adr) : Sp := fun vs H Q _ => ∃ (l : Addr) (n : Int) (cs : List Addr) (us : List Cu), vs = [.ref l, .int n] ∧ 0 ≤ n ∧ H l = some (.lst (cs.map V.ref)) ∧ cs.length ≤ 900 ∧ Cues0 A H cs us ∧ Rising us ∧ ∀ v H', CueAt0 A cs us n v → Same H H' → Q v H'
theorem ok_cue_at (T : Txt K mg A) : FnOk P w K mg base (CXE P w) 3 A.f_cue_at A.d_cue_at ["cues", "number"] (spCueAt0 A) := by
  have G_checked := ok_checked (P := P) (w := w) (base := base) T
  refine T.F_cue_at.okN sc_cue_at (fun vs H Q E h => ?_) (fun cdv Ar outer s H vs Q E hr h => ?_)
  · obtain ⟨l, n, cs, us, rfl, hn, hl, hz, hc, hri, k⟩ := h
    rfl
  · obtain ⟨l, n, cs, us, rfl, hn, hl, hz, hc, hri, k⟩ := h
    refine ⟨_, (pss_cons (ps_for PassesOwn.never rfl (pi_listK K (pe_call G_checked (hr.mono (by decide)) (by rfl) T.m_checked T.F_checked.kp T.bb_checked .nil passE0 (pa_cons (pv 0) (pa_cons (pv 1) pa_nil)))) (pg_name (i := 2) sc_cue_at.nd rfl (Or.inl rfl)) (pss_one (ps_if (pt_cmpR op_eq (pe_fldK K (pv 2)) (pv 1) (nomark _)) (pss_one (ps_ret (pv 2))) pss_nil)))
      (pss_one (ps_ret pe_non))), ?_⟩
    refine ⟨_, rfl, _, rfl, l, n, cs, us, rfl, hn, hl, hz, hc, hri, fun m H1 hm hml s1 => ?_⟩
    have hcl : us.length = cs.length := (Paired.length hc).symm
    refine ⟨m, rfl, ⟨_, SqL.of hml⟩, for_list (xs := cs.map V.ref) (fun i σ' G => (∃ z : Option V, σ' = [some (.ref l), some (.int n), z]) ∧ G = H1 ∧ ∀ u ∈ us.take i, u.n ≠ n) ⟨⟨none, rfl⟩, rfl, by simp⟩ (fun i σ' G _ hq => ?_) (fun i v σ' G hv hq => ?_) fun σ' G hq => ?_⟩
    · obtain ⟨_, rfl, _⟩ := hq; exact SqL.of hml
    · obtain ⟨⟨z, rfl⟩, rfl, no⟩ := hq
      rw [List.getElem?_map] at hv
      cases hci : cs[i]? with
      | none => rw [hci] at hv; cases hv
      | some c =>
        rw [hci] at hv
        obtain rfl : V.ref c = v := by simpa using hv
        obtain ⟨u, hu, dx, L, ps, e, _⟩ := paired_at (hc.keep s1) hci
        refine ⟨_, rfl, c, A.C_Cue, dx, _, _, rfl, e, T.cl_Cue, T.na_Cue_number, rfl, _, rfl, rfl, _, rfl, ?_⟩
        by_cases hb : u.n = n
        · rw [show decide (V.int u.n = V.int n) = true from decide_eq_true (by rw [hb])]
          exact iteT ⟨_, rfl, k _ _ (.inr ⟨i, c, u, rfl, hci, hu, hb⟩) s1⟩
        · rw [show decide (V.int u.n = V.int n) = false from decide_eq_false (fun z => hb (by simpa using z))]
          refine iteF ⟨⟨_, rfl⟩, rfl, fun w hw => ?_⟩
          rw [List.take_add_one, hu] at hw
          rcases List.mem_append.mp hw with y | y
          · exact no w y
          · have : w = u := by simpa using y
            rw [this]; exact hb
    obtain ⟨⟨z, rfl⟩, rfl, no⟩ := hq
    refine k _ _ (.inl ⟨rfl, fun u hu => no u ?_⟩) s1
    rw [List.take_of_length_le (by rw [List.length_map]; omega)]
    exact hu
abbrev Row := Int × Int × Str
def oV : Option Int → V
  | none => .non
  | some i => .int i
structure Wk where
  num : Int
  lag : Int
  held : Option Int
  due : Option Int
def clk (w : Wk) (t b : Int) : Int := match w.held with
  | none => t - w.lag * b
  | some h => h * b
def onW (w : Wk) (t : Int) : Wk := { w with lag := t - clk w t 1, held := none }
theorem clk_on (w : Wk) (t : Int) : clk (onW w t) t 1 = clk w t 1 := by
  show t - (t - clk w t 1) * 1 = _; omega
def dueO (c : Int) : V → Option Int
  | .int f => some (c + f)
  | _ => none
def nextC (us : List Cu) (n : Int) : Option Cu := us.find? fun u => decide (n < u.n)
def hasC (us : List Cu) (n : Int) : Option Cu := us.find? fun u => decide (u.n = n)
def prevN (us : List Cu) (n : Int) : Int := match (us.filter fun u => decide (u.n < n)).getLast? with
  | none => 0
  | some u => u.n
def nextN (us : List Cu) (n : Int) : Int := match nextC us n with
  | none => 0
  | some u => u.n
def goneTo (w : Wk) (t : Int) (u : Cu) : Wk := { onW w t with num := u.n, due := dueO (clk w t 1) u.fo }
def gotoF (w : Wk) (t : Int) : Option Cu → Wk × List Row × Bool
  | none => (w, [], false)
  | some u => (goneTo w t u, [(clk w t 1, u.n, ("go" : Str))], true)
def backF (us : List Cu) (w : Wk) (t : Int) : Wk × List Row × Bool := if w.num = 0 then (w, [], false) else ({ onW w t with num := prevN us w.num, due := none }, [(clk w t 1, prevN us w.num, ("back" : Str))], true)
inductive Wd where
  | go | back | goto (n : Int) | stop | on
structure Dd where
  tick : Int
  wd : Wd
def doF (us : List Cu) (w : Wk) (d : Dd) : Wk × List Row := match d.wd with
  | .go => ((gotoF w d.tick (nextC us w.num)).1, (gotoF w d.tick (nextC us w.num)).2.1)
  | .back => ((backF us w d.tick).1, (backF us w d.tick).2.1)
  | .goto n => ((gotoF w d.tick (hasC us n)).1, (gotoF w d.tick (hasC us n)).2.1)
  | .stop => ({ w with held := some (clk w d.tick 1) }, [])
  | .on => (onW w d.tick, [])
inductive Comes (us : List Cu) (k b : Int) : Int → Option Int → List Row → Int → Option Int → Prop
  | rest {n d} : (∀ e, d = some e → k < e * b) → Comes us k b n d [] n d
  | last {n e} : e * b ≤ k → nextC us n = none → Comes us k b n (some e) [] n none
  | go {n e u r n' d'} : e * b ≤ k → nextC us n = some u → Comes us k b u.n (dueO e u.fo) r n' d' → Comes us k b n (some e) ((e, u.n, ("go" : Str)) :: r) n' d'
inductive Runs (us : List Cu) : Wk → List Dd → List Row → Wk → Prop
  | nil {w : Wk} : Runs us w [] [] w
  | snoc {w : Wk} {ds : List Dd} {r : List Row} {w1 : Wk} {d : Dd} {r1 : List Row} {n1 : Int} {d1 : Option Int} : Runs us w ds r w1 → Comes us (clk w1 d.tick 1) 1 w1.num w1.due r1 n1 d1 → Runs us w (ds ++ [d]) (r ++ (r1 ++ (doF us { w1 with num := n1, due := d1 } d).2)) (doF us { w1 with num := n1, due := d1 } d).1
theorem find_least {n : Int} : ∀ {us : List Cu}, Rising us → ∀ {u : Cu}, nextC us n = some u → ∀ v ∈ us, n < v.n → u.n ≤ v.n
  | [], _, u, h, _, hv, _ => by simp at hv
  | a :: us, ri, u, h, v, hv, hn => by
    unfold nextC at h
    rw [List.find?_cons] at h
    have ri' := List.pairwise_cons.mp ri
    by_cases c : n < a.n
    · rw [show decide (n < a.n) = true from decide_eq_true c] at h
      cases h
      rcases List.mem_cons.mp hv with rfl | hv
      · exact Int.le_refl _
      · exact Int.le_of_lt (ri'.1 v hv)
    · rw [show decide (n < a.n) = false from decide_eq_false c] at h
      rcases List.mem_cons.mp hv with rfl | hv
      · exact absurd hn c
      · exact find_least ri'.2 h v hv hn
theorem next_mem {us : List Cu} {n : Int} {u : Cu} (h : nextC us n = some u) : u ∈ us ∧ n < u.n :=
  ⟨List.mem_of_find?_eq_some h, of_decide_eq_true (List.find?_some (p := fun u : Cu => decide (n < u.n)) h)⟩
theorem least_next {us : List Cu} (ri : Rising us) {n m : Int} (h : LeastOr0 (nsAbove us n) m) : m = nextN us n := by
  unfold nextN
  cases e : nextC us n with
  | none =>
    refine h.1 ?_
    have := List.find?_eq_none.mp e
    unfold nsAbove
    rw [List.filter_eq_nil_iff.mpr fun u hu => this u hu]
    rfl
  | some u =>
    obtain ⟨hu, hn⟩ := next_mem e
    have um : u.n ∈ nsAbove us n := List.mem_map.mpr ⟨u, List.mem_filter.mpr ⟨hu, decide_eq_true hn⟩, rfl⟩
    obtain ⟨h1, h2⟩ := h.2 (List.ne_nil_of_mem um)
    obtain ⟨v, hv, rfl⟩ := List.mem_map.mp h1
    obtain ⟨v1, v2⟩ := List.mem_filter.mp hv
    have a := find_least ri e v v1 (of_decide_eq_true v2)
    have b := h2 _ um
    show v.n = u.n
    omega
theorem last_most {l : List Cu} (ri : Rising l) {u : Cu} (h : l.getLast? = some u) : ∀ v ∈ l, v.n ≤ u.n := by
  obtain ⟨l', rfl⟩ := List.getLast?_eq_some_iff.mp h
  intro v hv
  rcases List.mem_append.mp hv with hv | hv
  · exact Int.le_of_lt ((List.pairwise_append.mp ri).2.2 v hv u (by simp))
  · rw [List.mem_singleton] at hv; rw [hv]; exact Int.le_refl _
theorem most_prev {us : List Cu} (ri : Rising us) {n m : Int} (h : MostOr0 (nsBelow us n) m) : m = prevN us n := by
  unfold prevN
  cases e : (us.filter fun u => decide (u.n < n)).getLast? with
  | none =>
    refine h.1 ?_
    unfold nsBelow
    rw [List.getLast?_eq_none_iff.mp e]
    rfl
  | some u =>
    have hu : u ∈ us.filter fun u => decide (u.n < n) := List.mem_of_getLast? e
    have um : u.n ∈ nsBelow us n := List.mem_map.mpr ⟨u, hu, rfl⟩
    obtain ⟨h1, h2⟩ := h.2 (List.ne_nil_of_mem um)
    obtain ⟨v, hv, rfl⟩ := List.mem_map.mp h1
    have a := last_most (List.Pairwise.filter _ ri) e v hv
    have b := h2 _ um
    show v.n = u.n
    omega
theorem has_of {us : List Cu} (ri : Rising us) {u : Cu} (hu : u ∈ us) : hasC us u.n = some u := by
  unfold hasC
  induction us with
  | nil => simp at hu
  | cons a us ih =>
    have ri' := List.pairwise_cons.mp ri
    rw [List.find?_cons]
    rcases List.mem_cons.mp hu with rfl | hu
    · rw [decide_eq_true rfl]
    · rw [show decide (a.n = u.n) = false from decide_eq_false (by have := ri'.1 u hu; omega)]
      exact ih ri'.2 hu
theorem has_mem {us : List Cu} {n : Int} {u : Cu} (h : hasC us n = some u) : u ∈ us ∧ u.n = n :=
  ⟨List.mem_of_find?_eq_some h, of_decide_eq_true (List.find?_some (p := fun u : Cu => decide (u.n = n)) h)⟩
def cntA (us : List Cu) (n : Int) : Nat := (us.filter fun u => decide (n < u.n)).length
theorem cnt_le (us : List Cu) (n : Int) : cntA us n ≤ us.length := List.length_filter_le _ _
theorem cnt_cons (a : Cu) (us : List Cu) (n : Int) : cntA (a :: us) n = cntA us n + (if n < a.n then 1 else 0) := by
  unfold cntA
  rw [List.filter_cons]
  by_cases c : n < a.n
  · rw [decide_eq_true c, if_pos rfl, if_pos c, List.length_cons]
  · rw [decide_eq_false c, if_neg Bool.false_ne_true, if_neg c]; rfl
theorem cnt_mono {n m : Int} (h : n ≤ m) : ∀ us : List Cu, cntA us m ≤ cntA us n
  | [] => Nat.le_refl _
  | a :: us => by
    have ih := cnt_mono h us
    rw [cnt_cons, cnt_cons]
    by_cases c : m < a.n
    · rw [if_pos c, if_pos (show n < a.n by omega)]; omega
    · rw [if_neg c]; omega
theorem cnt_lt {n : Int} {u : Cu} (hn : n < u.n) : ∀ {us : List Cu}, u ∈ us → cntA us u.n < cntA us n
  | [], h => by simp at h
  | a :: us, h => by
    have m := cnt_mono (Int.le_of_lt hn) us
    rw [cnt_cons, cnt_cons]
    rcases List.mem_cons.mp h with rfl | h
    · rw [if_neg (show ¬ u.n < u.n by omega), if_pos hn]; omega
    · have ih := cnt_lt hn h
      by_cases c : u.n < a.n
      · rw [if_pos c, if_pos (show n < a.n by omega)]; omega
      · rw [if_neg c]; omega
def walkF (Lc Lt : Addr) (w : Wk) : List (Str × V) := [("cues", .ref Lc), ("number", .int w.num), ("lag", .int w.lag), ("held", oV w.held), ("due", oV w.due), ("trail", .ref Lt)]
structure Rw where
  r : Addr
  l : Addr
  c : Int
  n : Int
  w : Str
def Rw.d (t : Rw) : Row := (t.c, t.n, t.w)
def RowAt (H : Hp) (cs : List Addr) (t : Rw) : Prop := H t.r = some (.tup [.int t.c, .ref t.l, .int t.n, .str t.w]) ∧ H t.l = some (.lst (cs.map V.ref))
structure WalkAt (A : Adr) (H0 H : Hp) (x Lc Lt : Addr) (cs : List Addr) (us : List Cu) (w : Wk) (ts : List Rw) : Prop where
  ob : ∃ dx, H x = some (.ins A.C_Walk dx (walkF Lc Lt w))
  cu : H Lc = some (.lst (cs.map V.ref))
  ok : Cues0 A H0 cs us
  ri : Rising us
  sz : cs.length ≤ 900
  fo : ∀ u ∈ us, FoOk u.fo ∧ 1 ≤ u.n
  tr : H Lt = some (.lst (ts.map fun t => V.ref t.r))
  rs : ∀ t ∈ ts, RowAt H cs t ∧ t.l ≠ Lt ∧ H0 t.l = none ∧ H0 t.r = none
  nd : (ts.map (·.l)).Nodup
  ne : Lc ≠ Lt
  nn : 0 ≤ w.num
  sm : Same H0 H
  fx : H0 x = none
  fl : H0 Lt = none
theorem WalkAt.keep {A : Adr} {H0 H H' : Hp} {x Lc Lt : Addr} {cs : List Addr} {us : List Cu} {w : Wk} {ts : List Rw} (h : WalkAt A H0 H x Lc Lt cs us w ts) (s : Same H H') : WalkAt A H0 H' x Lc Lt cs us w ts :=
  ⟨by obtain ⟨dx, e⟩ := h.ob; exact ⟨dx, s _ _ e⟩, s _ _ h.cu, h.ok, h.ri, h.sz, h.fo, s _ _ h.tr, fun t ht => ⟨⟨s _ _ (h.rs t ht).1.1, s _ _ (h.rs t ht).1.2⟩, (h.rs t ht).2⟩, h.nd, h.ne, h.nn, h.sm.trans s, h.fx, h.fl⟩
theorem WalkAt.put {A : Adr} {H0 H : Hp} {x Lc Lt : Addr} {cs : List Addr} {us : List Cu} {w : Wk} {ts : List Rw} (h : WalkAt A H0 H x Lc Lt cs us w ts) {dx : Addr} (hx : H x = some (.ins A.C_Walk dx (walkF Lc Lt w))) (w' : Wk) (hn : 0 ≤ w'.num) :
    WalkAt A H0 (upd H x (.ins A.C_Walk dx (walkF Lc Lt w'))) x Lc Lt cs us w' ts := by
  have kp : ∀ {b o}, H b = some o → (∀ C d f, o ≠ .ins C d f) → (upd H x (.ins A.C_Walk dx (walkF Lc Lt w'))) b = some o := fun {b o} e n => by
    rw [upd_ne (ne_of e hx (n _ _ _))]; exact e
  exact ⟨⟨dx, upd_same⟩, kp h.cu (by intro _ _ _ z; cases z), h.ok, h.ri, h.sz, h.fo, kp h.tr (by intro _ _ _ z; cases z), fun t ht => ⟨⟨kp (h.rs t ht).1.1 (by intro _ _ _ z; cases z), kp (h.rs t ht).1.2 (by intro _ _ _ z; cases z)⟩, (h.rs t ht).2⟩, h.nd, h.ne, hn, h.sm.upd h.fx, h.fx, h.fl⟩
theorem WalkAt.snoc {A : Adr} {H0 H : Hp} {x Lc Lt : Addr} {cs : List Addr} {us : List Cu} {w : Wk} {ts : List Rw} (h : WalkAt A H0 H x Lc Lt cs us w ts) {l r : Addr} (hl : H l = none) (hr : (upd H l (.lst (cs.map V.ref))) r = none) (c : Int) (wd : Str) :
    WalkAt A H0 (upd (upd (upd H l (.lst (cs.map V.ref))) r (.tup [.int c, .ref l, .int w.num, .str wd])) Lt (.lst (ts.map (fun t => V.ref t.r) ++ [V.ref r]))) x Lc Lt cs us w (ts ++ [⟨r, l, c, w.num, wd⟩]) := by
  have nrl : r ≠ l := by rintro rfl; rw [upd_same] at hr; cases hr
  have hr' : H r = none := by rw [upd_ne nrl] at hr; exact hr
  have nl : l ≠ Lt := fun e => by rw [e, h.tr] at hl; cases hl
  have nr : r ≠ Lt := fun e => by rw [e, h.tr] at hr'; cases hr'
  have kp : ∀ {b o}, H b = some o → b ≠ Lt → (upd (upd (upd H l (.lst (cs.map V.ref))) r (.tup [.int c, .ref l, .int w.num, .str wd])) Lt (.lst (ts.map (fun t => V.ref t.r) ++ [V.ref r]))) b = some o := fun {b o} e n => by
    rw [upd_ne n, upd_ne (ne_of_none e hr'), upd_ne (ne_of_none e hl)]; exact e
  obtain ⟨dx, hx⟩ := h.ob
  refine ⟨⟨dx, kp hx (ne_of hx h.tr (by intro z; cases z))⟩, kp h.cu h.ne, h.ok, h.ri, h.sz, h.fo, by rw [upd_same, List.map_append]; rfl, fun t ht => ?_, ?_, h.ne, h.nn, ((h.sm.upd (h.sm.free hl)).upd (h.sm.free hr')).upd h.fl, h.fx, h.fl⟩
  · rcases List.mem_append.mp ht with ht | ht
    · obtain ⟨⟨a, b⟩, n, f⟩ := h.rs t ht
      exact ⟨⟨kp a (ne_of a h.tr (by intro z; cases z)), kp b n⟩, n, f⟩
    · rw [List.mem_singleton] at ht
      subst ht
      exact ⟨⟨by rw [upd_ne nr, upd_same], by rw [upd_ne nl, upd_ne (Ne.symm nrl), upd_same]⟩, nl, h.sm.free hl, h.sm.free hr'⟩
  · rw [List.map_append]
    refine List.nodup_append.mpr ⟨h.nd, by simp, fun a ha b hb e => ?_⟩
    rw [List.map_cons, List.map_nil, List.mem_singleton] at hb
    obtain ⟨t, ht, rfl⟩ := List.mem_map.mp ha
    have := (h.rs t ht).1.2
    rw [e, hb] at this
    rw [hl] at this
    cases this
def spWalk (A : Adr) : Sp := fun vs H Q _ => ∃ (x dx l : Addr) (cs : List Addr) (us : List Cu), vs = [.ref x, .ref l] ∧ H x = some (.ins A.C_Walk dx []) ∧ H l = some (.lst (cs.map V.ref)) ∧ cs.length ≤ 900 ∧ Cues0 A H cs us ∧ Rising us ∧
  ∀ Lc Lt H', H' x = some (.ins A.C_Walk dx (walkF Lc Lt ⟨0, 0, none, none⟩)) → H' Lc = some (.lst (cs.map V.ref)) → H' Lt = some (.lst []) → H Lc = none → H Lt = none → Lc ≠ Lt → (∀ b o, b ≠ x → H b = some o → H' b = some o) → Q .non H'
theorem ok_Walk_init (T : Txt K mg A) : FnOk P w K mg base (CXE P w) 2 A.f_Walk_init A.d_Walk_init ["self", "cues"] (spWalk A) := by
  have G_cue_list := ok_cue_list (P := P) (w := w) (base := base) T
  refine T.F_Walk_init.okN sc_Walk_init (fun vs H Q E h => ?_) (fun cdv Ar outer s H vs Q E hr h => ?_)
  · obtain ⟨x, dx, l, cs, us, rfl, hx, hl, hz, hc, hri, k⟩ := h
    rfl
  · obtain ⟨x, dx, l, cs, us, rfl, hx, hl, hz, hc, hri, k⟩ := h
    refine ⟨_, (pss_cons (ps_fld (pv 0) (pe_call G_cue_list (hr.mono (by decide)) (by rfl) T.m_cue_list T.F_cue_list.kp T.bb_cue_list .nil passE0 (pa_cons (pv 1) pa_nil)) rfl)
      (pss_cons (ps_fld (pv 0) pe_int rfl)
      (pss_cons (ps_fld (pv 0) pe_int rfl)
      (pss_cons (ps_fld (pv 0) pe_non rfl)
      (pss_cons (ps_fld (pv 0) pe_non rfl)
      (pss_one (ps_fld (pv 0) (pe_lstS pa_nil) rfl))))))), ?_⟩
    refine ⟨_, rfl, l, cs, us, rfl, hl, hz, hc, hri, fun Lc H1 hLc0 hLc s1 => ?_⟩
    have nc : Lc ≠ x := fun e => by rw [e, hx] at hLc0; cases hLc0
    refine ⟨_, rfl, x, A.C_Walk, dx, _, rfl, s1 _ _ hx, T.cl_Walk, T.na_Walk_cues, (by show 0 < 1000; decide), ?_⟩
    refine ⟨_, rfl, x, A.C_Walk, dx, _, rfl, upd_same, T.cl_Walk, T.na_Walk_number, (by show 1 < 1000; decide), ?_⟩
    refine ⟨_, rfl, x, A.C_Walk, dx, _, rfl, upd_same, T.cl_Walk, T.na_Walk_lag, (by show 2 < 1000; decide), ?_⟩
    refine ⟨_, rfl, x, A.C_Walk, dx, _, rfl, upd_same, T.cl_Walk, T.na_Walk_held, (by show 3 < 1000; decide), ?_⟩
    refine ⟨_, rfl, x, A.C_Walk, dx, _, rfl, upd_same, T.cl_Walk, T.na_Walk_due, (by show 4 < 1000; decide), ?_⟩
    refine ⟨by decide, fun Lt hLt => ?_⟩
    have nt : Lt ≠ x := fun e => by rw [e, upd_same] at hLt; cases hLt
    have hLt1 : H1 Lt = none := by rw [upd_ne nt, upd_ne nt, upd_ne nt, upd_ne nt, upd_ne nt] at hLt; exact hLt
    have nct : Lc ≠ Lt := ne_of_none hLc hLt1
    refine ⟨_, rfl, x, A.C_Walk, dx, _, rfl, by rw [upd_ne (Ne.symm nt), upd_same], T.cl_Walk, T.na_Walk_trail, (by show 5 < 1000; decide), ?_⟩
    refine k Lc Lt _ upd_same ?_ ?_ hLc0 (s1.free hLt1) nct fun b o hb e => ?_
    · rw [upd_ne nc, upd_ne nct, upd_ne nc, upd_ne nc, upd_ne nc, upd_ne nc, upd_ne nc]; exact hLc
    · rw [upd_ne nt, upd_same]
    · rw [upd_ne hb, upd_ne (ne_of_none (s1 _ _ e) hLt1), upd_ne hb, upd_ne hb, upd_ne hb, upd_ne hb, upd_ne hb]; exact s1 _ _ e
def Sm64 (b : Int) : Prop := -18446744073709551616 < b ∧ b < 18446744073709551616
def spClk (A : Adr) : Sp := fun vs H Q _ => ∃ (x dx Lc Lt : Addr) (w : Wk) (t b : Int), vs = [.ref x, .int t, .int b] ∧ H x = some (.ins A.C_Walk dx (walkF Lc Lt w)) ∧ Sm64 b ∧ Q (.int (clk w t b)) H
theorem ok_Walk_clock_top (T : Txt K mg A) : FnOk P w K mg base (CXE P w) 1 A.f_Walk_clock_top A.d_Walk_clock_top ["self", "top", "bottom"] (spClk A) := by
  refine T.F_Walk_clock_top.okN sc_Walk_clock_top (fun vs H Q E h => ?_) (fun cdv Ar outer s H vs Q E hr h => ?_)
  · obtain ⟨x, dx, Lc, Lt, w, t, b, rfl, hx, hb, k⟩ := h
    rfl
  · obtain ⟨x, dx, Lc, Lt, w, t, b, rfl, hx, hb, k⟩ := h
    refine ⟨_, (pss_cons (ps_if (pt_cmp (pc_isN (pe_fldK K (pv 0)))) (pss_one (ps_ret (pe_op op_sub (pv 1) (pe_op op_mul (pe_fldK K (pv 0)) (pv 2))))) pss_nil)
      (pss_one (ps_ret (pe_op op_mul (pe_fldK K (pv 0)) (pv 2))))), ?_⟩
    refine ⟨_, rfl, x, A.C_Walk, dx, _, _, rfl, hx, T.cl_Walk, T.na_Walk_held, rfl, _, rfl, ?_⟩
    unfold clk at k
    cases e : w.held with
    | none =>
      rw [e] at k
      refine iteT ⟨_, rfl, _, rfl, x, A.C_Walk, dx, _, _, rfl, hx, T.cl_Walk, T.na_Walk_lag, rfl, _, rfl, _, _, rfl, rfl, .inr ⟨hb.1, hb.2⟩, _, _, rfl, rfl, k⟩
    | some h =>
      rw [e] at k
      refine iteF ⟨_, rfl, x, A.C_Walk, dx, _, _, rfl, hx, T.cl_Walk, T.na_Walk_held, rfl, _, rfl, h, _, by rw [e]; rfl, rfl, .inr ⟨hb.1, hb.2⟩, k⟩
def spNote (A : Adr) : Sp := fun vs H Q _ => ∃ (H0 : Hp) (x Lc Lt : Addr) (cs : List Addr) (us : List Cu) (w : Wk) (ts : List Rw) (c : Int) (wd : Str), vs = [.ref x, .int c, .str wd] ∧ WalkAt A H0 H x Lc Lt cs us w ts ∧ ts.length < 1000000 ∧
  ∀ H' t, t.d = (c, w.num, wd) → WalkAt A H0 H' x Lc Lt cs us w (ts ++ [t]) → Q .non H'
theorem ok_Walk_note (T : Txt K mg A) : FnOk P w K mg base (CXE P w) 1 A.f_Walk_note A.d_Walk_note ["self", "clock", "word"] (spNote A) := by
  refine T.F_Walk_note.okN sc_Walk_note (fun vs H Q E h => ?_) (fun cdv Ar outer s H vs Q E hr h => ?_)
  · obtain ⟨H0, x, Lc, Lt, cs, us, w, ts, c, wd, rfl, hW, hz, k⟩ := h
    rfl
  · obtain ⟨H0, x, Lc, Lt, cs, us, w, ts, c, wd, rfl, hW, hz, k⟩ := h
    refine ⟨_, (pss_one (ps_expr (pe_bmK K PySem.F.plainAttrs_list PySem.F.slot_list_append PySem.F.type_list_append mt_append (pe_fldK K (pv 0)) (pa_cons (pe_tupS (pa_cons (pv 1) (pa_cons (pe_callTy (call_listK K) (by rfl) T.b_list boot_list (pa_cons (pe_fldK K (pv 0)) pa_nil)) (pa_cons (pe_fldK K (pv 0)) (pa_cons (pv 2) pa_nil))))) pa_nil)))), ?_⟩
    obtain ⟨dx, hx⟩ := hW.ob
    refine ⟨_, rfl, x, A.C_Walk, dx, _, _, rfl, hx, T.cl_Walk, T.na_Walk_trail, rfl, .inl ⟨rfl, _, SqL.of hW.tr⟩, ?_⟩
    refine ⟨_, rfl, _, rfl, x, A.C_Walk, dx, _, _, rfl, hx, T.cl_Walk, T.na_Walk_cues, rfl, Lc, _, rfl, SqL.of hW.cu, fun l hl => ?_⟩
    refine ⟨_, rfl, x, A.C_Walk, dx, _, _, rfl, by rw [upd_ne (ne_of_none hx hl)]; exact hx, T.cl_Walk, T.na_Walk_number, rfl, _, rfl, (by show 4 ≤ 1000; decide), fun r hr => ?_⟩
    have nrl : r ≠ l := by rintro rfl; rw [upd_same] at hr; cases hr
    have hr' : H r = none := by rw [upd_ne nrl] at hr; exact hr
    refine ⟨Lt, _, V.ref r, rfl, rfl, by rw [upd_ne (ne_of_none hW.tr hr'), upd_ne (ne_of_none hW.tr hl)]; exact hW.tr, Nat.lt_of_lt_of_le (by rw [List.length_map]; exact hz) (show 1000000 ≤ 2 ^ 24 by decide), ?_⟩
    exact k _ ⟨r, l, c, w.num, wd⟩ rfl (hW.snoc hl hr c wd)
def spArrive (A : Adr) : Sp := fun vs H Q _ => ∃ (H0 : Hp) (x Lc Lt : Addr) (cs : List Addr) (us : List Cu) (w : Wk) (ts : List Rw) (c n : Int) (u : Cu), vs = [.ref x, .int c, .int n] ∧ WalkAt A H0 H x Lc Lt cs us w ts ∧ ts.length < 1000000 ∧ u ∈ us ∧ u.n = n ∧
  ∀ H' t, t.d = (c, n, ("go" : Str)) → WalkAt A H0 H' x Lc Lt cs us { w with num := n, due := dueO c u.fo } (ts ++ [t]) → Q .non H'
theorem ok_Walk_arrive (T : Txt K mg A) : FnOk P w K mg base (CXE P w) 4 A.f_Walk_arrive A.d_Walk_arrive ["self", "clock", "number"] (spArrive A) := by
  have G_Walk_note := ok_Walk_note (P := P) (w := w) (base := base) T
  have G_cue_at := ok_cue_at (P := P) (w := w) (base := base) T
  refine T.F_Walk_arrive.okN sc_Walk_arrive (fun vs H Q E h => ?_) (fun cdv Ar outer s H vs Q E hr h => ?_)
  · obtain ⟨H0, x, Lc, Lt, cs, us, w, ts, c, n, u, rfl, hW, hz, hu, hn, k⟩ := h
    rfl
  · obtain ⟨H0, x, Lc, Lt, cs, us, w, ts, c, n, u, rfl, hW, hz, hu, hn, k⟩ := h
    refine ⟨_, (pss_cons (ps_set (i := 3) sc_Walk_arrive.nd rfl (Or.inl rfl) (pe_fldK K (pe_call G_cue_at (hr.mono (by decide)) (by rfl) T.m_cue_at T.F_cue_at.kp T.bb_cue_at .nil passE0 (pa_cons (pe_fldK K (pv 0)) (pa_cons (pv 2) pa_nil)))))
      (pss_cons (ps_fld (pv 0) (pv 2) rfl)
      (pss_cons (ps_fld (pv 0) (pe_ifExp (pt_cmp (pc_isN (pv 3))) pe_non (pe_op op_add (pv 1) (pv 3))) rfl)
      (pss_one (ps_expr (pe_meth (pv 0) T.cl_Walk T.me_Walk_note G_Walk_note (hr.mono (by decide)) T.bb_Walk_note .nil passE0 (pa_cons (pv 1) (pa_cons pe_str pa_nil)))))))), ?_⟩
    obtain ⟨dx, hx⟩ := hW.ob
    have n1 : 1 ≤ n := by have := (hW.fo u hu).2; omega
    refine seq_cut (fun σ' H' => σ' = [some (.ref x), some (.int c), some (.int n), some u.fo] ∧ Same H H') (fun N hN => ?_) ?_
    · refine ⟨_, rfl, x, A.C_Walk, dx, _, _, rfl, hx, T.cl_Walk, T.na_Walk_cues, rfl, _, rfl, Lc, n, cs, us, rfl, by omega, hW.cu, hW.sz, hW.ok.keep hW.sm, hW.ri, fun v H1 hv s1 => ?_⟩
      rcases hv with ⟨_, no⟩ | ⟨i, cc, u', rfl, h1, h2, h3⟩
      · exact absurd hn (no u hu)
      · have e1 : u' = u := by
          have a := has_of hW.ri (List.mem_of_getElem? h2)
          have b := has_of hW.ri hu
          rw [h3] at a
          rw [hn] at b
          rw [a] at b
          exact Option.some.inj b
        subst e1
        obtain ⟨u2, hu2, dc, L, ps, e, _⟩ := paired_at (hW.ok.keep (hW.sm.trans s1)) h1
        rw [h2] at hu2
        cases hu2
        exact ⟨cc, A.C_Cue, dc, _, _, rfl, e, T.cl_Cue, T.na_Cue_follow, rfl, hN _ _ ⟨rfl, s1⟩⟩
    rintro σ' H1 ⟨rfl, s1⟩
    have hW1 := hW.keep s1
    have hx1 := s1 _ _ hx
    refine seq_cut (fun σ' H' => σ' = [some (.ref x), some (.int c), some (.int n), some u.fo] ∧ WalkAt A H0 H' x Lc Lt cs us { w with num := n } ts ∧ H' x = some (.ins A.C_Walk dx (walkF Lc Lt { w with num := n }))) (fun N hN => ?_) ?_
    · exact ⟨_, rfl, _, rfl, x, A.C_Walk, dx, _, rfl, hx1, T.cl_Walk, T.na_Walk_number, (by show 6 < 1000; decide), hN _ _ ⟨rfl, hW1.put hx1 { w with num := n } (by show 0 ≤ n; omega), upd_same⟩⟩
    rintro σ' H2 ⟨rfl, hW2, hx2⟩
    refine seq_cut (fun σ' H' => σ' = [some (.ref x), some (.int c), some (.int n), some u.fo] ∧ WalkAt A H0 H' x Lc Lt cs us { w with num := n, due := dueO c u.fo } ts) (fun N hN => ?_) ?_
    · refine ⟨_, rfl, _, rfl, ?_⟩
      rcases (hW.fo u hu).1 with e | ⟨f, e, _, _⟩
      · rw [e] at hN ⊢
        exact iteT ⟨_, rfl, x, A.C_Walk, dx, _, rfl, hx2, T.cl_Walk, T.na_Walk_due, (by show 6 < 1000; decide), hN _ _ ⟨rfl, hW2.put hx2 { w with num := n, due := none } (by show 0 ≤ n; omega)⟩⟩
      · rw [e] at hN ⊢
        exact iteF ⟨_, rfl, _, rfl, _, _, rfl, rfl, _, rfl, x, A.C_Walk, dx, _, rfl, hx2, T.cl_Walk, T.na_Walk_due, (by show 6 < 1000; decide), hN _ _ ⟨rfl, hW2.put hx2 { w with num := n, due := some (c + f) } (by show 0 ≤ n; omega)⟩⟩
    rintro σ' H3 ⟨rfl, hW3⟩
    obtain ⟨dx3, hx3⟩ := hW3.ob
    exact ⟨_, rfl, x, dx3, _, rfl, hx3, rfl, _, rfl, H0, x, Lc, Lt, cs, us, _, ts, c, "go", rfl, hW3, hz, fun H' t ht h => k H' t ht h⟩
def ComeInv (A : Adr) (H0 : Hp) (x Lc Lt : Addr) (cs : List Addr) (us : List Cu) (w : Wk) (ts : List Rw) (top b : Int) (m : Nat) (σ' : St) (H' : Hp) : Prop :=
  ∃ (w1 : Wk) (ts1 : List Rw) (z : Option V), m = 2 * cntA us w1.num + (if w1.due.isSome then 1 else 0) ∧ σ' = [some (.ref x), some (.int top), some (.int b), some (.int (clk w top b)), z] ∧ WalkAt A H0 H' x Lc Lt cs us w1 (ts ++ ts1) ∧ w1.lag = w.lag ∧ w1.held = w.held ∧
    ts1.length + cntA us w1.num ≤ us.length ∧ ∀ r n' d', Comes us (clk w top b) b w1.num w1.due r n' d' → Comes us (clk w top b) b w.num w.due (ts1.map Rw.d ++ r) n' d'
def spCome (A : Adr) : Sp := fun vs H Q _ => ∃ (H0 : Hp) (x Lc Lt : Addr) (cs : List Addr) (us : List Cu) (w : Wk) (ts : List Rw) (top b : Int), vs = [.ref x, .int top, .int b] ∧ WalkAt A H0 H x Lc Lt cs us w ts ∧ ts.length + us.length < 1000000 ∧ Sm64 b ∧
  ∀ H' n' d' ts1, Comes us (clk w top b) b w.num w.due (ts1.map Rw.d) n' d' → ts1.length ≤ us.length → WalkAt A H0 H' x Lc Lt cs us { w with num := n', due := d' } (ts ++ ts1) → Q .non H'
theorem ok_Walk_come_to (T : Txt K mg A) : FnOk P w K mg base (CXE P w) 5 A.f_Walk_come_to A.d_Walk_come_to ["self", "top", "bottom"] (spCome A) := by
  have G_Walk_arrive := ok_Walk_arrive (P := P) (w := w) (base := base) T
  have G_Walk_clock_top := ok_Walk_clock_top (P := P) (w := w) (base := base) T
  have G_above := ok_above (P := P) (w := w) (base := base) T
  refine T.F_Walk_come_to.okN sc_Walk_come_to (fun vs H Q E h => ?_) (fun cdv Ar outer s H vs Q E hr h => ?_)
  · obtain ⟨H0, x, Lc, Lt, cs, us, w, ts, top, b, rfl, hW, hz, hb, k⟩ := h
    rfl
  · obtain ⟨H0, x, Lc, Lt, cs, us, w, ts, top, b, rfl, hW, hz, hb, k⟩ := h
    refine ⟨_, (pss_cons (ps_set (i := 3) sc_Walk_come_to.nd rfl (Or.inl rfl) (pe_meth (pv 0) T.cl_Walk T.me_Walk_clock_top G_Walk_clock_top (hr.mono (by decide)) T.bb_Walk_clock_top .nil passE0 (pa_cons (pv 1) (pa_cons (pv 2) pa_nil))))
      (pss_one (ps_while PassesOwn.never (PW.pt (pw_and (pt_cmp (pc_notN (pe_fldK K (pv 0)))) (pw_and1 (pt_cmpR op_le (pe_op op_mul (pe_fldK K (pv 0)) (pv 2)) (pv 3) (nomark _))))) (pss_cons (ps_set (i := 4) sc_Walk_come_to.nd rfl (Or.inl rfl) (pe_call G_above (hr.mono (by decide)) (by rfl) T.m_above T.F_above.kp T.bb_above .nil passE0 (pa_cons (pe_fldK K (pv 0)) (pa_cons (pe_fldK K (pv 0)) pa_nil))))
      (pss_one (ps_if (pt_cmpR op_eq (pv 4) pe_int (nomark _)) (pss_one (ps_fld (pv 0) pe_non rfl)) (pss_one (ps_expr (pe_meth (pv 0) T.cl_Walk T.me_Walk_arrive G_Walk_arrive (hr.mono (by decide)) T.bb_Walk_arrive .nil passE0 (pa_cons (pe_fldK K (pv 0)) (pa_cons (pv 4) pa_nil))))))))))), ?_⟩
    refine seq_cut (fun σ' H' => σ' = [some (.ref x), some (.int top), some (.int b), some (.int (clk w top b)), none] ∧ H' = H) (fun N hN => ?_) ?_
    · obtain ⟨dx, hx⟩ := hW.ob
      exact ⟨_, rfl, x, dx, _, rfl, hx, rfl, _, rfl, _, rfl, x, dx, Lc, Lt, w, top, b, rfl, hx, hb, hN _ _ ⟨rfl, rfl⟩⟩
    rintro σ' H1 ⟨rfl, rfl⟩
    have done : ∀ (w1 : Wk) (ts1 : List Rw) (H' : Hp), WalkAt A H0 H' x Lc Lt cs us w1 (ts ++ ts1) → w1.lag = w.lag → w1.held = w.held → ts1.length ≤ us.length → Comes us (clk w top b) b w.num w.due (ts1.map Rw.d) w1.num w1.due → Q .non H' := fun w1 ts1 H' h h1 h2 h3 h4 => by
      refine k H' w1.num w1.due ts1 h4 h3 ?_
      obtain ⟨a1, a2, a3, a4⟩ := w1
      cases h1
      cases h2
      exact h
    refine ⟨ComeInv A H0 x Lc Lt cs us w ts top b, ⟨_, w, [], none, rfl, rfl, by rw [List.append_nil]; exact hW, rfl, rfl, by have := cnt_le us w.num; simpa using this, fun r n' d' h => h⟩, ?_⟩
    clear hW
    rintro m σ' H2 ⟨w1, ts1, z, rfl, rfl, hW, el, eh, hc, hr⟩
    obtain ⟨dx, hx⟩ := hW.ob
    refine ⟨_, rfl, x, A.C_Walk, dx, _, _, rfl, hx, T.cl_Walk, T.na_Walk_due, rfl, _, rfl, ?_⟩
    cases ed : w1.due with
    | none =>
      refine iteF (iteF ?_)
      have := hr [] w1.num w1.due (.rest fun e h => by rw [ed] at h; cases h)
      rw [List.append_nil] at this
      exact done w1 ts1 H2 hW el eh (by omega) this
    | some e =>
      refine iteT ?_
      refine ⟨_, rfl, x, A.C_Walk, dx, _, _, rfl, hx, T.cl_Walk, T.na_Walk_due, rfl, _, rfl, e, _, by rw [ed]; rfl, rfl, .inr ⟨hb.1, hb.2⟩, _, rfl, _, _, rfl, rfl, _, rfl, ?_⟩
      by_cases c : e * b ≤ clk w top b
      · rw [decide_eq_true c]
        refine iteT ⟨fun σ' H' => ∃ m', m' < 2 * cntA us w1.num + 1 ∧ ComeInv A H0 x Lc Lt cs us w ts top b m' σ' H', fun _ _ h => h, ?_⟩
        refine ⟨_, rfl, x, A.C_Walk, dx, _, _, rfl, hx, T.cl_Walk, T.na_Walk_cues, rfl, _, rfl, x, A.C_Walk, dx, _, _, rfl, hx, T.cl_Walk, T.na_Walk_number, rfl, Lc, w1.num, cs, us, rfl, hW.nn, hW.cu, hW.sz, hW.ok.keep hW.sm, hW.ri, fun a H3 ha s3 => ?_⟩
        have ea := least_next hW.ri ha
        have hW3 := hW.keep s3
        have hx3 := s3 _ _ hx
        refine ⟨_, rfl, rfl, _, rfl, ?_⟩
        unfold nextN at ea
        cases en : nextC us w1.num with
        | none =>
          rw [en] at ea
          subst ea
          rw [decide_eq_true rfl]
          refine iteT ⟨_, rfl, x, A.C_Walk, dx, _, rfl, hx3, T.cl_Walk, T.na_Walk_due, (by show 6 < 1000; decide), ?_⟩
          refine ⟨2 * cntA us w1.num + 0, by omega, { w1 with due := none }, ts1, _, rfl, rfl, hW3.put hx3 { w1 with due := none } hW.nn, el, eh, hc, fun r n' d' h => ?_⟩
          cases h with
          | rest _ =>
            have := hr [] w1.num none (by rw [ed]; exact .last c en)
            exact this
        | some u =>
          rw [en] at ea
          have ea : a = u.n := ea
          subst ea
          obtain ⟨hu, hlt⟩ := next_mem en
          have u1 := (hW.fo u hu).2
          rw [decide_eq_false (show ¬ V.int u.n = V.int 0 from fun z => by have := V.int.inj z; omega)]
          have cl := cnt_lt hlt hu
          refine iteF ⟨_, rfl, x, dx, _, rfl, hx3, rfl, _, rfl, x, A.C_Walk, dx, _, _, rfl, hx3, T.cl_Walk, T.na_Walk_due, rfl, _, rfl, H0, x, Lc, Lt, cs, us, w1, ts ++ ts1, e, u.n, u, by rw [ed]; rfl, hW3, by rw [List.length_append]; omega, hu, rfl, fun H4 t ht h4 => ?_⟩
          refine ⟨2 * cntA us u.n + (if (dueO e u.fo).isSome then 1 else 0), by split <;> omega, { w1 with num := u.n, due := dueO e u.fo }, ts1 ++ [t], _, rfl, rfl, by rw [← List.append_assoc]; exact h4, el, eh, by rw [List.length_append]; show ts1.length + 1 + cntA us u.n ≤ _; omega, fun r n' d' h => ?_⟩
          have := hr ((e, u.n, ("go" : Str)) :: r) n' d' (by rw [ed]; exact .go c en h)
          rw [List.map_append, List.append_assoc]
          rw [show List.map Rw.d [t] ++ r = (e, u.n, ("go" : Str)) :: r by rw [List.map_cons, ht]; rfl]
          exact this
      · rw [decide_eq_false c]
        refine iteF ?_
        have := hr [] w1.num w1.due (.rest fun e' h => by rw [ed] at h; cases h; omega)
        rw [List.append_nil] at this
        exact done w1 ts1 H2 hW el eh (by omega) this
def spOn (A : Adr) : Sp := fun vs H Q _ => ∃ (H0 : Hp) (x Lc Lt : Addr) (cs : List Addr) (us : List Cu) (w : Wk) (ts : List Rw) (t : Int), vs = [.ref x, .int t] ∧ WalkAt A H0 H x Lc Lt cs us w ts ∧ ∀ H', WalkAt A H0 H' x Lc Lt cs us (onW w t) ts → Q .non H'
theorem ok_Walk_on (T : Txt K mg A) : FnOk P w K mg base (CXE P w) 2 A.f_Walk_on A.d_Walk_on ["self", "tick"] (spOn A) := by
  have G_Walk_clock_top := ok_Walk_clock_top (P := P) (w := w) (base := base) T
  refine T.F_Walk_on.okN sc_Walk_on (fun vs H Q E h => ?_) (fun cdv Ar outer s H vs Q E hr h => ?_)
  · obtain ⟨H0, x, Lc, Lt, cs, us, w, ts, t, rfl, hW, k⟩ := h
    rfl
  · obtain ⟨H0, x, Lc, Lt, cs, us, w, ts, t, rfl, hW, k⟩ := h
    refine ⟨_, (pss_cons (ps_fld (pv 0) (pe_op op_sub (pv 1) (pe_meth (pv 0) T.cl_Walk T.me_Walk_clock_top G_Walk_clock_top (hr.mono (by decide)) T.bd_Walk_clock_top T.dv_Walk_clock_top passE0 (pa_cons (pv 1) pa_nil))) rfl)
      (pss_one (ps_fld (pv 0) pe_non rfl))), ?_⟩
    obtain ⟨dx, hx⟩ := hW.ob
    refine ⟨_, rfl, _, rfl, x, dx, _, rfl, hx, rfl, _, rfl, x, dx, Lc, Lt, w, t, 1, rfl, hx, ⟨by decide, by decide⟩, _, _, rfl, rfl, _, rfl, x, A.C_Walk, dx, _, rfl, hx, T.cl_Walk, T.na_Walk_lag, (by show 6 < 1000; decide), ?_⟩
    have h1 := hW.put hx { w with lag := t - clk w t 1 } hW.nn
    refine ⟨_, rfl, x, A.C_Walk, dx, _, rfl, upd_same, T.cl_Walk, T.na_Walk_held, (by show 6 < 1000; decide), ?_⟩
    exact k _ (h1.put upd_same (onW w t) hW.nn)
theorem any_has {n : Int} : ∀ us : List Cu, (us.map (fun u => decide (u.n = n))).any id = (hasC us n).isSome
  | [] => rfl
  | u :: us => by
    have ih := any_has (n := n) us
    unfold hasC at ih ⊢
    rw [List.map_cons, List.any_cons, List.find?_cons, ih]
    by_cases c : u.n = n
    · rw [decide_eq_true c]; rfl
    · rw [decide_eq_false c]; rfl
def spHas (A : Adr) : Sp := fun vs H Q _ => ∃ (l : Addr) (n : Int) (cs : List Addr) (us : List Cu), vs = [.ref l, .int n] ∧ H l = some (.lst (cs.map V.ref)) ∧ cs.length ≤ 900 ∧ Cues0 A H cs us ∧ ∀ H', Same H H' → Q (.bl (hasC us n).isSome) H'
theorem ok_has_cue (T : Txt K mg A) : FnOk P w K mg base (CXE P w) 2 A.f_has_cue A.d_has_cue ["cues", "number"] (spHas A) := by
  have G_is_whole := ok_is_whole (P := P) (w := w) (base := base) T
  refine T.F_has_cue.okN sc_has_cue (fun vs H Q E h => ?_) (fun cdv Ar outer s H vs Q E hr h => ?_)
  · obtain ⟨l, n, cs, us, rfl, hl, hz, hc, k⟩ := h
    rfl
  · obtain ⟨l, n, cs, us, rfl, hl, hz, hc, k⟩ := h
    refine ⟨_, (pss_one (ps_ret (pe_and (pe_call G_is_whole (hr.mono (by decide)) (by rfl) T.m_is_whole T.F_is_whole.kp T.bb_is_whole .nil passE0 (pa_cons (pv 1) pa_nil)) (pe_one (pe_callB (call_anyB K rfl) (by rfl) T.b_any boot_any (pa_cons (pe_comp ["cue", "number"] [none, some 1] rfl (pi_listK K (pv 0)) (fun _ _ _ => (pg_name (i := 0) ndc_has_cue_0 rfl (Or.inl rfl))) (fun _ _ _ => (pe_cmpR op_eq (pe_fldK K (pv 0)) (pv 1) (nomark _)))) pa_nil)))))), ?_⟩
    refine ⟨_, rfl, n, rfl, _, rfl, iteT ?_⟩
    refine ⟨_, rfl, l, rfl, ⟨_, SqL.of hl⟩, fun D hD => ?_⟩
    have hcl : us.length = (cs.map V.ref).length := by rw [List.length_map]; exact (Paired.length hc).symm
    refine comp_pr (fun u : Cu => .bl (decide (u.n = n))) (fun σ => ∃ z, σ = [z, some (.int n)]) (SqL.of hl) hD (by rw [List.length_map]; omega) hcl ⟨none, rfl⟩ (fun i v u σ' G N hv hu ho sm q => ?_) fun G sm hDl => ?_
    · obtain ⟨z, rfl⟩ := ho
      rw [List.getElem?_map] at hv
      cases hci : cs[i]? with
      | none => rw [hci] at hv; cases hv
      | some c =>
        rw [hci] at hv
        obtain rfl : V.ref c = v := by simpa using hv
        obtain ⟨u', hu', dx, L, ps, e, _⟩ := paired_at (hc.keep sm) hci
        rw [hu] at hu'
        cases hu'
        refine ⟨_, rfl, c, A.C_Cue, dx, _, _, rfl, e, T.cl_Cue, T.na_Cue_number, rfl, _, rfl, rfl, ?_⟩
        rw [show decide (V.int u.n = V.int n) = decide (u.n = n) from decide_eq_decide.mpr ⟨V.int.inj, fun h => by rw [h]⟩]
        exact q _ _ (Same.refl _) ⟨_, rfl⟩
    refine ⟨D, us.map (fun u => decide (u.n = n)), rfl, SqL.of (by rw [hDl, List.map_map]; rfl), ?_⟩
    rw [any_has]
    exact k G sm
def spGoto (A : Adr) : Sp := fun vs H Q _ => ∃ (H0 : Hp) (x Lc Lt : Addr) (cs : List Addr) (us : List Cu) (w : Wk) (ts : List Rw) (t n : Int), vs = [.ref x, .int t, .int n] ∧ WalkAt A H0 H x Lc Lt cs us w ts ∧ ts.length < 1000000 ∧
  ∀ H' ts1, ts1.map Rw.d = (gotoF w t (hasC us n)).2.1 → WalkAt A H0 H' x Lc Lt cs us (gotoF w t (hasC us n)).1 (ts ++ ts1) → Q (.bl (gotoF w t (hasC us n)).2.2) H'
theorem ok_Walk_goto (T : Txt K mg A) : FnOk P w K mg base (CXE P w) 5 A.f_Walk_goto A.d_Walk_goto ["self", "tick", "number"] (spGoto A) := by
  have G_Walk_arrive := ok_Walk_arrive (P := P) (w := w) (base := base) T
  have G_Walk_clock_top := ok_Walk_clock_top (P := P) (w := w) (base := base) T
  have G_Walk_on := ok_Walk_on (P := P) (w := w) (base := base) T
  have G_has_cue := ok_has_cue (P := P) (w := w) (base := base) T
  refine T.F_Walk_goto.okN sc_Walk_goto (fun vs H Q E h => ?_) (fun cdv Ar outer s H vs Q E hr h => ?_)
  · obtain ⟨H0, x, Lc, Lt, cs, us, w, ts, t, n, rfl, hW, hz, k⟩ := h
    rfl
  · obtain ⟨H0, x, Lc, Lt, cs, us, w, ts, t, n, rfl, hW, hz, k⟩ := h
    refine ⟨_, (pss_cons (ps_if (pt_not (pt_val (pe_call G_has_cue (hr.mono (by decide)) (by rfl) T.m_has_cue T.F_has_cue.kp T.bb_has_cue .nil passE0 (pa_cons (pe_fldK K (pv 0)) (pa_cons (pv 2) pa_nil))))) (pss_one (ps_ret pe_bl)) pss_nil)
      (pss_cons (ps_expr (pe_meth (pv 0) T.cl_Walk T.me_Walk_on G_Walk_on (hr.mono (by decide)) T.bb_Walk_on .nil passE0 (pa_cons (pv 1) pa_nil)))
      (pss_cons (ps_expr (pe_meth (pv 0) T.cl_Walk T.me_Walk_arrive G_Walk_arrive (hr.mono (by decide)) T.bb_Walk_arrive .nil passE0 (pa_cons (pe_meth (pv 0) T.cl_Walk T.me_Walk_clock_top G_Walk_clock_top (hr.mono (by decide)) T.bd_Walk_clock_top T.dv_Walk_clock_top passE0 (pa_cons (pv 1) pa_nil)) (pa_cons (pv 2) pa_nil))))
      (pss_one (ps_ret pe_bl))))), ?_⟩
    obtain ⟨dx, hx⟩ := hW.ob
    refine ⟨_, rfl, x, A.C_Walk, dx, _, _, rfl, hx, T.cl_Walk, T.na_Walk_cues, rfl, _, rfl, Lc, n, cs, us, rfl, hW.cu, hW.sz, hW.ok.keep hW.sm, fun H1 s1 => ⟨_, rfl, ?_⟩⟩
    have hW1 := hW.keep s1
    cases e : hasC us n with
    | none =>
      rw [e] at k
      refine iteT (k H1 [] rfl ?_)
      rw [List.append_nil]; exact hW1
    | some u =>
      rw [e] at k
      obtain ⟨hu, hn⟩ := has_mem e
      have hx1 := s1 _ _ hx
      refine iteF ⟨_, rfl, x, dx, _, rfl, hx1, rfl, _, rfl, H0, x, Lc, Lt, cs, us, w, ts, t, rfl, hW1, fun H2 hW2 => ?_⟩
      obtain ⟨dx2, hx2⟩ := hW2.ob
      refine ⟨_, rfl, x, dx2, _, rfl, hx2, rfl, _, rfl, x, dx2, _, rfl, hx2, rfl, _, rfl, x, dx2, Lc, Lt, onW w t, t, 1, rfl, hx2, ⟨by decide, by decide⟩, _, rfl, H0, x, Lc, Lt, cs, us, onW w t, ts, clk (onW w t) t 1, n, u, rfl, hW2, hz, hu, hn, fun H3 r hr hW3 => ?_⟩
      refine k H3 [r] ?_ ?_
      · rw [List.map_cons, hr, clk_on, ← hn]; rfl
      · rw [clk_on, ← hn] at hW3; exact hW3
def spGo (A : Adr) : Sp := fun vs H Q _ => ∃ (H0 : Hp) (x Lc Lt : Addr) (cs : List Addr) (us : List Cu) (w : Wk) (ts : List Rw) (t : Int), vs = [.ref x, .int t] ∧ WalkAt A H0 H x Lc Lt cs us w ts ∧ ts.length < 1000000 ∧
  ∀ H' ts1, ts1.map Rw.d = (gotoF w t (nextC us w.num)).2.1 → WalkAt A H0 H' x Lc Lt cs us (gotoF w t (nextC us w.num)).1 (ts ++ ts1) → Q (.bl (gotoF w t (nextC us w.num)).2.2) H'
theorem has_next {us : List Cu} (ri : Rising us) (h1 : ∀ u ∈ us, FoOk u.fo ∧ 1 ≤ u.n) (n : Int) : hasC us (nextN us n) = nextC us n := by
  unfold nextN
  cases e : nextC us n with
  | none =>
    show hasC us 0 = none
    cases e2 : hasC us 0 with
    | none => rfl
    | some u =>
      obtain ⟨hu, h0⟩ := has_mem e2
      have := (h1 u hu).2
      omega
  | some u => exact has_of ri (next_mem e).1
theorem ok_Walk_go (T : Txt K mg A) : FnOk P w K mg base (CXE P w) 6 A.f_Walk_go A.d_Walk_go ["self", "tick"] (spGo A) := by
  have G_Walk_goto := ok_Walk_goto (P := P) (w := w) (base := base) T
  have G_above := ok_above (P := P) (w := w) (base := base) T
  refine T.F_Walk_go.okN sc_Walk_go (fun vs H Q E h => ?_) (fun cdv Ar outer s H vs Q E hr h => ?_)
  · obtain ⟨H0, x, Lc, Lt, cs, us, w, ts, t, rfl, hW, hz, k⟩ := h
    rfl
  · obtain ⟨H0, x, Lc, Lt, cs, us, w, ts, t, rfl, hW, hz, k⟩ := h
    refine ⟨_, (pss_one (ps_ret (pe_meth (pv 0) T.cl_Walk T.me_Walk_goto G_Walk_goto (hr.mono (by decide)) T.bb_Walk_goto .nil passE0 (pa_cons (pv 1) (pa_cons (pe_call G_above (hr.mono (by decide)) (by rfl) T.m_above T.F_above.kp T.bb_above .nil passE0 (pa_cons (pe_fldK K (pv 0)) (pa_cons (pe_fldK K (pv 0)) pa_nil))) pa_nil))))), ?_⟩
    obtain ⟨dx, hx⟩ := hW.ob
    refine ⟨_, rfl, x, dx, _, rfl, hx, rfl, _, rfl, _, rfl, x, A.C_Walk, dx, _, _, rfl, hx, T.cl_Walk, T.na_Walk_cues, rfl, _, rfl, x, A.C_Walk, dx, _, _, rfl, hx, T.cl_Walk, T.na_Walk_number, rfl, Lc, w.num, cs, us, rfl, hW.nn, hW.cu, hW.sz, hW.ok.keep hW.sm, hW.ri, fun a H1 ha s1 => ?_⟩
    rw [least_next hW.ri ha]
    refine ⟨H0, x, Lc, Lt, cs, us, w, ts, t, nextN us w.num, rfl, hW.keep s1, hz, ?_⟩
    rw [has_next hW.ri hW.fo]
    exact k
def spBack (A : Adr) : Sp := fun vs H Q _ => ∃ (H0 : Hp) (x Lc Lt : Addr) (cs : List Addr) (us : List Cu) (w : Wk) (ts : List Rw) (t : Int), vs = [.ref x, .int t] ∧ WalkAt A H0 H x Lc Lt cs us w ts ∧ ts.length < 1000000 ∧
  ∀ H' ts1, ts1.map Rw.d = (backF us w t).2.1 → WalkAt A H0 H' x Lc Lt cs us (backF us w t).1 (ts ++ ts1) → Q (.bl (backF us w t).2.2) H'
theorem prev_ge {us : List Cu} (h1 : ∀ u ∈ us, FoOk u.fo ∧ 1 ≤ u.n) (n : Int) : 0 ≤ prevN us n := by
  unfold prevN
  cases e : (us.filter fun u => decide (u.n < n)).getLast? with
  | none => exact Int.le_refl _
  | some u =>
    have := (h1 u (List.mem_filter.mp (List.mem_of_getLast? e)).1).2
    show 0 ≤ u.n
    omega
theorem ok_Walk_back (T : Txt K mg A) : FnOk P w K mg base (CXE P w) 4 A.f_Walk_back A.d_Walk_back ["self", "tick"] (spBack A) := by
  have G_Walk_clock_top := ok_Walk_clock_top (P := P) (w := w) (base := base) T
  have G_Walk_note := ok_Walk_note (P := P) (w := w) (base := base) T
  have G_Walk_on := ok_Walk_on (P := P) (w := w) (base := base) T
  have G_below := ok_below (P := P) (w := w) (base := base) T
  refine T.F_Walk_back.okN sc_Walk_back (fun vs H Q E h => ?_) (fun cdv Ar outer s H vs Q E hr h => ?_)
  · obtain ⟨H0, x, Lc, Lt, cs, us, w, ts, t, rfl, hW, hz, k⟩ := h
    rfl
  · obtain ⟨H0, x, Lc, Lt, cs, us, w, ts, t, rfl, hW, hz, k⟩ := h
    refine ⟨_, (pss_cons (ps_if (pt_cmpR op_eq (pe_fldK K (pv 0)) pe_int (nomark _)) (pss_one (ps_ret pe_bl)) pss_nil)
      (pss_cons (ps_expr (pe_meth (pv 0) T.cl_Walk T.me_Walk_on G_Walk_on (hr.mono (by decide)) T.bb_Walk_on .nil passE0 (pa_cons (pv 1) pa_nil)))
      (pss_cons (ps_fld (pv 0) (pe_call G_below (hr.mono (by decide)) (by rfl) T.m_below T.F_below.kp T.bb_below .nil passE0 (pa_cons (pe_fldK K (pv 0)) (pa_cons (pe_fldK K (pv 0)) pa_nil))) rfl)
      (pss_cons (ps_fld (pv 0) pe_non rfl)
      (pss_cons (ps_expr (pe_meth (pv 0) T.cl_Walk T.me_Walk_note G_Walk_note (hr.mono (by decide)) T.bb_Walk_note .nil passE0 (pa_cons (pe_meth (pv 0) T.cl_Walk T.me_Walk_clock_top G_Walk_clock_top (hr.mono (by decide)) T.bd_Walk_clock_top T.dv_Walk_clock_top passE0 (pa_cons (pv 1) pa_nil)) (pa_cons pe_str pa_nil))))
      (pss_one (ps_ret pe_bl))))))), ?_⟩
    obtain ⟨dx, hx⟩ := hW.ob
    unfold backF at k
    refine ⟨_, rfl, x, A.C_Walk, dx, _, _, rfl, hx, T.cl_Walk, T.na_Walk_number, rfl, rfl, _, rfl, ?_⟩
    by_cases c : w.num = 0
    · rw [if_pos c] at k
      rw [decide_eq_true (show V.int w.num = V.int 0 by rw [c])]
      refine iteT (k H [] rfl ?_)
      rw [List.append_nil]; exact hW
    rw [if_neg c] at k
    rw [decide_eq_false (show ¬ V.int w.num = V.int 0 from fun z => c (V.int.inj z))]
    refine iteF ⟨_, rfl, x, dx, _, rfl, hx, rfl, _, rfl, H0, x, Lc, Lt, cs, us, w, ts, t, rfl, hW, fun H1 hW1 => ?_⟩
    obtain ⟨dx1, hx1⟩ := hW1.ob
    refine ⟨_, rfl, x, A.C_Walk, dx1, _, _, rfl, hx1, T.cl_Walk, T.na_Walk_cues, rfl, _, rfl, x, A.C_Walk, dx1, _, _, rfl, hx1, T.cl_Walk, T.na_Walk_number, rfl, Lc, w.num, cs, us, rfl, hW.nn, hW1.cu, hW1.sz, hW1.ok.keep hW1.sm, hW1.ri, fun a H2 ha s2 => ?_⟩
    rw [most_prev hW.ri ha]
    have hW2 := hW1.keep s2
    have hx2 := s2 _ _ hx1
    have p0 := prev_ge hW.fo w.num
    refine ⟨_, rfl, x, A.C_Walk, dx1, _, rfl, hx2, T.cl_Walk, T.na_Walk_number, (by show 6 < 1000; decide), ?_⟩
    have h3 := hW2.put hx2 { onW w t with num := prevN us w.num } p0
    refine ⟨_, rfl, x, A.C_Walk, dx1, _, rfl, upd_same, T.cl_Walk, T.na_Walk_due, (by show 6 < 1000; decide), ?_⟩
    have h4 := h3.put upd_same { onW w t with num := prevN us w.num, due := none } p0
    refine ⟨_, rfl, x, dx1, _, rfl, upd_same, rfl, _, rfl, x, dx1, _, rfl, upd_same, rfl, _, rfl, x, dx1, Lc, Lt, { onW w t with num := prevN us w.num, due := none }, t, 1, rfl, upd_same, ⟨by decide, by decide⟩, ?_⟩
    refine ⟨H0, x, Lc, Lt, cs, us, _, ts, clk w t 1, "back", by rw [← clk_on w t]; rfl, h4, hz, fun H5 r hr hW5 => k H5 [r] (by rw [List.map_cons, hr]; rfl) hW5⟩
def cuOf (n : Int) : Cu := ⟨n, false, .non⟩
theorem inV_ints {m : Int} : ∀ us : List Cu, inV (.int m) (us.map fun u => V.int u.n) = (hasC us m).isSome
  | [] => rfl
  | u :: us => by
    have ih := inV_ints (m := m) us
    unfold inV hasC at ih ⊢
    rw [List.map_cons, List.any_cons, List.find?_cons, ih]
    show (u.n == m || _) = _
    by_cases c : u.n = m
    · rw [decide_eq_true c, c]; simp
    · rw [decide_eq_false c, show (u.n == m) = false by simpa using c]; rfl
def intsAt (us : List Cu) : List V := us.map fun u => V.int u.n
theorem Part0.hide {A : Adr} {H : Hp} {D p : Addr} {ys : List V} (h : Part0 A H p) (hD : H D = some (.lst ys)) : Part0 A (hide H D) p := by
  obtain ⟨dx, d1, d2, a, b, c⟩ := h
  exact ⟨dx, d1, d2, by rw [hide_ne (ne_of a hD (by intro z; cases z))]; exact a, by rw [hide_ne (ne_of b hD (by intro z; cases z))]; exact b, by rw [hide_ne (ne_of c hD (by intro z; cases z))]; exact c⟩
theorem Cue1.hide {A : Adr} {H : Hp} {D c L : Addr} {n : Int} {st : Bool} {fo : V} {ys : List V} (h : Cue1 A H c L n st fo) (hD : H D = some (.lst ys)) (nL : L ≠ D) : Cue0 A (hide H D) c n st fo := by
  obtain ⟨dx, ps, a, b, l, d⟩ := h
  exact ⟨dx, L, ps, by rw [hide_ne (ne_of a hD (by intro z; cases z))]; exact a, by rw [hide_ne nL]; exact b, l, fun p hp => (d p hp).hide hD⟩
theorem made_sm {H H' : Hp} {x dx C : Addr} {fs : List (Str × V)} (nx : H x = none) (ndx : H dx = none) (k : ∀ b o, b ≠ x → (upd (upd H dx (.own x)) x (.ins C dx fs)) b = some o → H' b = some o) : Same H H' := fun b o e =>
  k b o (ne_of_none e nx) (by rw [upd_ne (ne_of_none e nx), upd_ne (ne_of_none e ndx)]; exact e)
theorem refs_of {A : Adr} {H : Hp} : ∀ {ys : List V} {us : List Cu}, Paired (fun v (u : Cu) => ∃ c, v = V.ref c ∧ Cue0 A H c u.n u.st u.fo) ys us → ∃ cs : List Addr, ys = cs.map V.ref ∧ Cues0 A H cs us
  | _, _, .nil => ⟨[], rfl, .nil⟩
  | _, _, .cons ⟨c, e, h⟩ t => by
    obtain ⟨cs, e2, h2⟩ := refs_of t
    exact ⟨c :: cs, by rw [e, e2]; rfl, .cons h h2⟩
def cuesOf (ms : List Int) : List Cu := ms.map cuOf
theorem cues_ints (ms : List Int) : intsAt (cuesOf ms) = ms.map V.int := by unfold intsAt cuesOf; rw [List.map_map]; rfl
theorem cues_rise {ms : List Int} (h : ms.Pairwise (· < ·)) : Rising (cuesOf ms) := by unfold Rising cuesOf; rw [List.pairwise_map]; exact h
theorem comes_none {us : List Cu} {k b n n' : Int} {d' : Option Int} {r : List Row} (h : Comes us k b n none r n' d') : r = [] ∧ n' = n ∧ d' = none := by
  cases h with
  | rest _ => exact ⟨rfl, rfl, rfl⟩
def spLaw (K : PySem.W.Frag) : Sp := fun vs H Q _ => ∃ (a : Addr) (ns : List Int), vs = [.ref a] ∧ SqL K H a (ns.map V.int) ∧ ns.length ≤ 63 ∧ ∀ H', Q (.bl true) H'
def spPut0 : Sp := fun vs H Q _ => ∃ l d, vs = [.ref l, .ref d] ∧ H d = some (.dT []) ∧ ∀ H', Same H H' → Q .non H'
theorem ok_put_in (T : Txt K mg A) : FnOk P w K mg base (CXE P w) 1 A.f_put_in A.d_put_in ["look", "told"] (spPut0) := by
  refine T.F_put_in.okN sc_put_in (fun vs H Q E h => ?_) (fun cdv Ar outer s H vs Q E hr h => ?_)
  · obtain ⟨l, d, rfl, hd, k⟩ := h
    rfl
  · obtain ⟨l, d, rfl, hd, k⟩ := h
    refine ⟨_, (pss_one (ps_hold (ps_for PassesOwn.never rfl (pi_items (pe_items (pv 1))) (pg_tupK (n := 2) K rfl (pgs_cons (pg_name (i := 2) sc_put_in.nd rfl (Or.inl rfl)) (pgs_cons (pg_name (i := 3) sc_put_in.nd rfl (Or.inl rfl)) pgs_nil))) pss_never))), ?_⟩
    refine ⟨d, [], hd, fun o xs es ep D kt => ?_⟩
    have hk := keys_vals D
    rw [kt0 kt] at hk
    have hv := vals_vals D kt
    refine ⟨_, rfl, d, o, es, ep, rfl, upd_same, D.sys, D.ex, D.data, fun p hp => ?_⟩
    have pd : d ≠ p := by rintro rfl; rw [upd_same] at hp; cases hp
    refine ⟨p, d, o, [], [], es, ep, rfl, upd_same, by rw [upd_ne pd, upd_same], D.ex, D.data, hk, hv, for_no ⟨by rw [upd_ne pd, upd_same], Nat.le_refl _⟩ ?_⟩
    exact ⟨by rw [upd_ne pd, upd_same], ts_hold hd (Same.new hp), k _ (sm_hold hd (Same.new hp))⟩
def spLook0 (A : Adr) : Sp := fun vs H Q _ => ∃ (l : Addr) (n : Int) (cs : List Addr) (us : List Cu), vs = [.ref l, .int n] ∧ 0 ≤ n ∧ H l = some (.lst (cs.map V.ref)) ∧ cs.length ≤ 900 ∧ Cues0 A H cs us ∧ Rising us ∧ ∀ d H', H d = none → H' d = some (.dT []) → Same H H' → Q (.ref d) H'
theorem ok_carried (T : Txt K mg A) : FnOk P w K mg base (CXE P w) 3 A.f_carried A.d_carried ["cues", "number"] (spLook0 A) := by
  have G_checked := ok_checked (P := P) (w := w) (base := base) T
  have G_put_in := ok_put_in (P := P) (w := w) (base := base) T
  refine T.F_carried.okN sc_carried (fun vs H Q E h => ?_) (fun cdv Ar outer s H vs Q E hr h => ?_)
  · obtain ⟨l, n, cs, us, rfl, hn, hl, hz, hc, hri, k⟩ := h
    rfl
  · obtain ⟨l, n, cs, us, rfl, hn, hl, hz, hc, hri, k⟩ := h
    refine ⟨_, (pss_cons (ps_set (i := 2) sc_carried.nd rfl (Or.inl rfl) pe_dnewT)
      (pss_cons (ps_for PassesOwn.never rfl (pi_listK K (pe_call G_checked (hr.mono (by decide)) (by rfl) T.m_checked T.F_checked.kp T.bb_checked .nil passE0 (pa_cons (pv 0) (pa_cons (pv 1) pa_nil)))) (pg_name (i := 3) sc_carried.nd rfl (Or.inl rfl)) (pss_cons (ps_if (pt_cmpR op_gt (pe_fldK K (pv 3)) (pv 1) (nomark _)) (pss_one ps_break) pss_nil)
      (pss_cons (ps_if (pt_val (pe_fldK K (pv 3))) (pss_one (ps_set (i := 2) sc_carried.nd rfl (Or.inl rfl) pe_dnewT)) pss_nil)
      (pss_one (ps_for PassesOwn.never rfl (pi_listK K (pe_fldK K (pv 3))) (pg_name (i := 4) sc_carried.nd rfl (Or.inl rfl)) (pss_one (ps_expr (pe_call G_put_in (hr.mono (by decide)) (by rfl) T.m_put_in T.F_put_in.kp T.bb_put_in .nil passE0 (pa_cons (pv 2) (pa_cons (pe_fldK K (pv 4)) pa_nil))))))))))
      (pss_one (ps_ret (pv 2))))), ?_⟩
    refine seq_cut (fun σ' H' => ∃ d, σ' = [some (.ref l), some (.int n), some (.ref d), none, none] ∧ H d = none ∧ H' d = some (.dT []) ∧ Same H H') (fun N hN => ?_) ?_
    · exact fun p hp => hN _ _ ⟨p, rfl, hp, upd_same, Same.new hp⟩
    rintro σ' H1 ⟨d0, rfl, nd0, hd0, s1⟩
    refine seq_cut (fun σ' H' => ∃ d v1 v2, σ' = [some (.ref l), some (.int n), some (.ref d), v1, v2] ∧ H d = none ∧ H' d = some (.dT []) ∧ Same H H') (fun N hN => ?_) ?_
    · refine ⟨_, rfl, _, rfl, l, n, cs, us, rfl, hn, s1 _ _ hl, hz, hc.keep s1, hri, fun m H2 nm hm s2 => ?_⟩
      refine ⟨m, rfl, ⟨_, SqL.of hm⟩, for_list (xs := cs.map V.ref) (fun i σ' H' => ∃ d v1 v2, σ' = [some (.ref l), some (.int n), some (.ref d), v1, v2] ∧ H d = none ∧ H' d = some (.dT []) ∧ Same H H' ∧ Same H2 H') ⟨d0, none, none, rfl, nd0, s2 _ _ hd0, s1.trans s2, Same.refl _⟩ ?_ ?_ ?_⟩
      · rintro i σ' H' _ ⟨_, _, _, _, _, _, _, sm⟩
        exact SqL.of (sm _ _ hm)
      · rintro i v σ' H3 hv ⟨d, v1, v2, rfl, nd, hd, s3, t3⟩
        rw [List.getElem?_map] at hv
        cases hci : cs[i]? with
        | none => rw [hci] at hv; cases hv
        | some c =>
          rw [hci] at hv
          obtain rfl : V.ref c = v := by simpa using hv
          obtain ⟨u, hu, dx, L, ps, e, eL, hp1, hp⟩ := paired_at (hc.keep s3) hci
          refine seq_cut (fun σ' H' => σ' = [some (.ref l), some (.int n), some (.ref d), some (.ref c), v2] ∧ H' = H3) (fun N2 hN2 => ?_) ?_
          · refine ⟨_, rfl, c, A.C_Cue, dx, _, _, rfl, e, T.cl_Cue, T.na_Cue_number, rfl, _, rfl, _, _, rfl, rfl, _, rfl, ?_⟩
            refine ite2 (fun _ => hN _ _ ⟨d, _, _, rfl, nd, hd, s3⟩) (fun _ => hN2 _ _ ⟨rfl, rfl⟩)
          rintro σ' H4 ⟨rfl, rfl⟩
          refine seq_cut (fun σ' H' => ∃ d, σ' = [some (.ref l), some (.int n), some (.ref d), some (.ref c), v2] ∧ H d = none ∧ H' d = some (.dT []) ∧ Same H H' ∧ Same H4 H') (fun N2 hN2 => ?_) ?_
          · refine ⟨_, rfl, c, A.C_Cue, dx, _, _, rfl, e, T.cl_Cue, T.na_Cue_stops, rfl, _, rfl, ?_⟩
            refine ite2 (fun _ => ?_) (fun _ => hN2 _ _ ⟨d, rfl, nd, hd, s3, Same.refl _⟩)
            exact fun p hp => hN2 _ _ ⟨p, rfl, s3.free hp, upd_same, s3.trans (Same.new hp), Same.new hp⟩
          rintro σ' H5 ⟨d', rfl, nd', hd', s5, t5⟩
          refine ⟨_, rfl, c, A.C_Cue, dx, _, _, rfl, t5 _ _ e, T.cl_Cue, T.na_Cue_parts, rfl, L, rfl, ⟨_, SqL.of (t5 _ _ eL)⟩, ?_⟩
          refine for_list (K := K) (a := L) (xs := ps.map V.ref) (fun j σ' H' => ∃ v2, σ' = [some (.ref l), some (.int n), some (.ref d'), some (.ref c), v2] ∧ Same H5 H') ⟨_, rfl, Same.refl _⟩ ?_ ?_ ?_
          · rintro j σ' H' _ ⟨_, _, sm⟩
            exact SqL.of (sm _ _ (t5 _ _ eL))
          · rintro j v σ' H6 hv ⟨v3, rfl, sm⟩
            rw [List.getElem?_map] at hv
            cases hpj : ps[j]? with
            | none => rw [hpj] at hv; cases hv
            | some p =>
              rw [hpj] at hv
              obtain rfl : V.ref p = v := by simpa using hv
              obtain ⟨dp, e1, e2, hp', g1, g2⟩ := (hp p (List.mem_of_getElem? hpj)).keep (t5.trans sm)
              exact ⟨_, rfl, _, rfl, p, A.C_Part, dp, _, _, rfl, hp', T.cl_Part, T.na_Part_tells, rfl, d', e1, rfl, g1, fun H7 s7 => ⟨_, rfl, sm.trans s7⟩⟩
          · rintro σ' H6 ⟨v3, rfl, sm⟩
            exact ⟨d', _, _, rfl, nd', sm _ _ hd', s5.trans sm, t3.trans (t5.trans sm)⟩
      · rintro σ' H3 ⟨d, v1, v2, rfl, nd, hd, s3, _⟩
        exact hN _ _ ⟨d, _, _, rfl, nd, hd, s3⟩
    rintro σ' H2 ⟨d, v1, v2, rfl, nd, hd, s2⟩
    exact ⟨_, rfl, k d H2 nd hd s2⟩
theorem ok_shown (T : Txt K mg A) : FnOk P w K mg base (CXE P w) 4 A.f_shown A.d_shown ["cues", "number"] (spLook0 A) := by
  have G_carried := ok_carried (P := P) (w := w) (base := base) T
  have G_cue_at := ok_cue_at (P := P) (w := w) (base := base) T
  have G_put_in := ok_put_in (P := P) (w := w) (base := base) T
  refine T.F_shown.okN sc_shown (fun vs H Q E h => ?_) (fun cdv Ar outer s H vs Q E hr h => ?_)
  · obtain ⟨l, n, cs, us, rfl, hn, hl, hz, hc, hri, k⟩ := h
    rfl
  · obtain ⟨l, n, cs, us, rfl, hn, hl, hz, hc, hri, k⟩ := h
    refine ⟨_, (pss_cons (ps_set (i := 2) sc_shown.nd rfl (Or.inl rfl) (pe_call G_carried (hr.mono (by decide)) (by rfl) T.m_carried T.F_carried.kp T.bb_carried .nil passE0 (pa_cons (pv 0) (pa_cons (pv 1) pa_nil))))
      (pss_cons (ps_set (i := 3) sc_shown.nd rfl (Or.inl rfl) (pe_call G_cue_at (hr.mono (by decide)) (by rfl) T.m_cue_at T.F_cue_at.kp T.bb_cue_at .nil passE0 (pa_cons (pv 0) (pa_cons (pv 1) pa_nil))))
      (pss_cons (ps_if (pt_cmp (pc_notN (pv 3))) (pss_one (ps_for PassesOwn.never rfl (pi_listK K (pe_fldK K (pv 3))) (pg_name (i := 4) sc_shown.nd rfl (Or.inl rfl)) (pss_one (ps_expr (pe_call G_put_in (hr.mono (by decide)) (by rfl) T.m_put_in T.F_put_in.kp T.bb_put_in .nil passE0 (pa_cons (pv 2) (pa_cons (pe_fldK K (pv 4)) pa_nil))))))) pss_nil)
      (pss_one (ps_ret (pv 2)))))), ?_⟩
    refine seq_cut (fun σ' H' => ∃ d, σ' = [some (.ref l), some (.int n), some (.ref d), none, none] ∧ H d = none ∧ H' d = some (.dT []) ∧ Same H H') (fun N hN => ?_) ?_
    · exact ⟨_, rfl, _, rfl, l, n, cs, us, rfl, hn, hl, hz, hc, hri, fun d H' nd hd s' => hN _ _ ⟨d, rfl, nd, hd, s'⟩⟩
    rintro σ' H1 ⟨d, rfl, nd, hd, s1⟩
    refine seq_cut (fun σ' H' => ∃ v, σ' = [some (.ref l), some (.int n), some (.ref d), some v, none] ∧ CueAt0 A cs us n v ∧ Same H1 H') (fun N hN => ?_) ?_
    · exact ⟨_, rfl, _, rfl, l, n, cs, us, rfl, hn, s1 _ _ hl, hz, hc.keep s1, hri, fun v H' hv s' => hN _ _ ⟨v, rfl, hv, s'⟩⟩
    rintro σ' H2 ⟨v, rfl, hv, s2⟩
    refine seq_cut (fun σ' H' => ∃ v1, σ' = [some (.ref l), some (.int n), some (.ref d), some v, v1] ∧ Same H2 H') (fun N hN => ?_) ?_
    · refine ⟨_, rfl, _, rfl, ?_⟩
      rcases hv with ⟨rfl, _⟩ | ⟨i, c, u, rfl, h1, h2, h3⟩
      · rw [decide_eq_true rfl]
        exact iteF (hN _ _ ⟨_, rfl, Same.refl _⟩)
      · rw [decide_eq_false (show ¬ V.ref c = V.non from fun z => by cases z)]
        obtain ⟨u', hu', dx, L, ps, e, eL, hp1, hp⟩ := paired_at (hc.keep (s1.trans s2)) h1
        refine iteT ⟨_, rfl, c, A.C_Cue, dx, _, _, rfl, e, T.cl_Cue, T.na_Cue_parts, rfl, L, rfl, ⟨_, SqL.of eL⟩, ?_⟩
        refine for_list (K := K) (a := L) (xs := ps.map V.ref) (fun j σ' H' => ∃ v1, σ' = [some (.ref l), some (.int n), some (.ref d), some (.ref c), v1] ∧ Same H2 H') ⟨_, rfl, Same.refl _⟩ ?_ ?_ ?_
        · rintro j σ' H' _ ⟨_, _, sm⟩
          exact SqL.of (sm _ _ eL)
        · rintro j v σ' H6 hv ⟨v3, rfl, sm⟩
          rw [List.getElem?_map] at hv
          cases hpj : ps[j]? with
          | none => rw [hpj] at hv; cases hv
          | some p =>
            rw [hpj] at hv
            obtain rfl : V.ref p = v := by simpa using hv
            obtain ⟨dp, e1, e2, hp', g1, g2⟩ := (hp p (List.mem_of_getElem? hpj)).keep sm
            exact ⟨_, rfl, _, rfl, p, A.C_Part, dp, _, _, rfl, hp', T.cl_Part, T.na_Part_alone, rfl, d, e2, rfl, g2, fun H7 s7 => ⟨_, rfl, sm.trans s7⟩⟩
        · rintro σ' H6 ⟨v3, rfl, sm⟩
          exact hN _ _ ⟨_, rfl, sm⟩
    rintro σ' H3 ⟨v1, rfl, s3⟩
    exact ⟨_, rfl, k d H3 nd ((s2.trans s3) _ _ hd) (s1.trans (s2.trans s3))⟩
def spFork (A : Adr) : Sp := fun vs H Q _ => ∃ (x dx Lc Lt : Addr) (cs : List Addr) (us : List Cu) (w : Wk), vs = [.ref x] ∧ H x = some (.ins A.C_Walk dx (walkF Lc Lt w)) ∧ H Lc = some (.lst (cs.map V.ref)) ∧ cs.length ≤ 900 ∧ Cues0 A H cs us ∧ Rising us ∧ (∀ u ∈ us, FoOk u.fo ∧ 1 ≤ u.n) ∧ 0 ≤ w.num ∧
  ∀ y Lc' Lt' H', WalkAt A H H' y Lc' Lt' cs us w [] → Q (.ref y) H'
theorem ok_forked (T : Txt K mg A) : FnOk P w K mg base (CXE P w) 4 A.f_forked A.d_forked ["walk"] (spFork A) := by
  have G_Walk_init := ok_Walk_init (P := P) (w := w) (base := base) T
  refine T.F_forked.okN sc_forked (fun vs H Q E h => ?_) (fun cdv Ar outer s H vs Q E hr h => ?_)
  · obtain ⟨x, dx, Lc, Lt, cs, us, w, rfl, hx, hL, hz, hc, hri, hfo, hn, k⟩ := h
    rfl
  · obtain ⟨x, dx, Lc, Lt, cs, us, w, rfl, hx, hL, hz, hc, hri, hfo, hn, k⟩ := h
    refine ⟨_, (pss_cons (ps_set (i := 1) sc_forked.nd rfl (Or.inl rfl) (pe_make T.M_Walk G_Walk_init (hr.mono (by decide)) (by rfl) T.c_Walk T.bb_Walk_init .nil passE0 (pa_cons (pe_fldK K (pv 0)) pa_nil)))
      (pss_cons (ps_fld (pv 1) (pe_fldK K (pv 0)) rfl)
      (pss_cons (ps_fld (pv 1) (pe_fldK K (pv 0)) rfl)
      (pss_cons (ps_fld (pv 1) (pe_fldK K (pv 0)) rfl)
      (pss_cons (ps_fld (pv 1) (pe_fldK K (pv 0)) rfl)
      (pss_one (ps_ret (pv 1)))))))), ?_⟩
    refine seq_cut (fun σ' H' => ∃ y Lc' Lt', σ' = [some (.ref x), some (.ref y)] ∧ WalkAt A H H' y Lc' Lt' cs us ⟨0, 0, none, none⟩ []) (fun N hN => ?_) ?_
    · refine ⟨_, rfl, x, A.C_Walk, dx, _, _, rfl, hx, T.cl_Walk, T.na_Walk_cues, rfl, fun y dy ny ndy nex => ⟨y, dy, Lc, cs, us, rfl, upd_same, ?_⟩⟩
      have s0 : Same H (upd (upd H dy (.own y)) y (.ins A.C_Walk dy [])) := (Same.new ndy).upd ny
      exact ⟨s0 _ _ hL, hz, hc.keep s0, hri, fun Lc' Lt' H' h1 h2 h3 h4 h5 h6 h7 => ⟨rfl, hN _ _ ⟨y, Lc', Lt', rfl, ⟨⟨dy, h1⟩, h2, hc, hri, hz, hfo, h3, fun t ht => by simp at ht, by simp, h6, Int.le_refl _, fun b o e => h7 b o (ne_of_none e ny) (s0 _ _ e), ny, s0.free h5⟩⟩⟩⟩
    rintro σ' H1 ⟨y, Lc', Lt', rfl, h1⟩
    obtain ⟨dy, hy⟩ := h1.ob
    refine ⟨_, rfl, x, A.C_Walk, dx, _, _, rfl, h1.sm _ _ hx, T.cl_Walk, T.na_Walk_number, rfl, _, rfl, y, A.C_Walk, dy, _, rfl, hy, T.cl_Walk, T.na_Walk_number, (by show 6 < 1000; decide), ?_⟩
    have h2 := h1.put hy { num := w.num, lag := 0, held := none, due := none } hn
    refine ⟨_, rfl, x, A.C_Walk, dx, _, _, rfl, h2.sm _ _ hx, T.cl_Walk, T.na_Walk_lag, rfl, _, rfl, y, A.C_Walk, dy, _, rfl, upd_same, T.cl_Walk, T.na_Walk_lag, (by show 6 < 1000; decide), ?_⟩
    have h3 := h2.put upd_same { num := w.num, lag := w.lag, held := none, due := none } hn
    refine ⟨_, rfl, x, A.C_Walk, dx, _, _, rfl, h3.sm _ _ hx, T.cl_Walk, T.na_Walk_held, rfl, _, rfl, y, A.C_Walk, dy, _, rfl, upd_same, T.cl_Walk, T.na_Walk_held, (by show 6 < 1000; decide), ?_⟩
    have h4 := h3.put upd_same { num := w.num, lag := w.lag, held := w.held, due := none } hn
    refine ⟨_, rfl, x, A.C_Walk, dx, _, _, rfl, h4.sm _ _ hx, T.cl_Walk, T.na_Walk_due, rfl, _, rfl, y, A.C_Walk, dy, _, rfl, upd_same, T.cl_Walk, T.na_Walk_due, (by show 6 < 1000; decide), ?_⟩
    exact ⟨_, rfl, k y Lc' Lt' _ (h4.put upd_same w hn)⟩
theorem WalkAt.recue {A : Adr} {H0 H : Hp} {x Lc Lt : Addr} {cs cs' : List Addr} {us us' : List Cu} {w : Wk} (h : WalkAt A H0 H x Lc Lt cs us w []) {dx m : Addr} (hx : H x = some (.ins A.C_Walk dx (walkF Lc Lt w))) (hm : H m = some (.lst (cs'.map V.ref)))
    (hc : Cues0 A H0 cs' us') (ri : Rising us') (sz : cs'.length ≤ 900) (fo : ∀ u ∈ us', FoOk u.fo ∧ 1 ≤ u.n) (nm : m ≠ Lt) : WalkAt A H0 (upd H x (.ins A.C_Walk dx (walkF m Lt w))) x m Lt cs' us' w [] := by
  have kp : ∀ {b o}, H b = some o → (∀ C d f, o ≠ .ins C d f) → (upd H x (.ins A.C_Walk dx (walkF m Lt w))) b = some o := fun {b o} e n => by
    rw [upd_ne (ne_of e hx (n _ _ _))]; exact e
  exact ⟨⟨dx, upd_same⟩, kp hm (by intro _ _ _ z; cases z), hc, ri, sz, fo, kp h.tr (by intro _ _ _ z; cases z), fun t ht => by simp at ht, by simp, nm, h.nn, h.sm.upd h.fx, h.fx, h.fl⟩
def spChange (A : Adr) : Sp := fun vs H Q _ => ∃ (H0 : Hp) (x Lc Lt l : Addr) (cs cs' : List Addr) (us us' : List Cu) (w : Wk) (t : Int), vs = [.ref x, .int t, .ref l] ∧ WalkAt A H0 H x Lc Lt cs us w [] ∧ H0 l = some (.lst (cs'.map V.ref)) ∧ cs'.length ≤ 900 ∧ Cues0 A H0 cs' us' ∧ Rising us' ∧ (∀ u ∈ us', FoOk u.fo ∧ 1 ≤ u.n) ∧
  ∀ Lc' r H', r.n = w.num → WalkAt A H0 H' x Lc' Lt cs' us' w [r] → Q .non H'
theorem ok_Walk_change (T : Txt K mg A) : FnOk P w K mg base (CXE P w) 2 A.f_Walk_change A.d_Walk_change ["self", "tick", "cues"] (spChange A) := by
  have G_Walk_clock_top := ok_Walk_clock_top (P := P) (w := w) (base := base) T
  have G_Walk_note := ok_Walk_note (P := P) (w := w) (base := base) T
  have G_cue_list := ok_cue_list (P := P) (w := w) (base := base) T
  refine T.F_Walk_change.okN sc_Walk_change (fun vs H Q E h => ?_) (fun cdv Ar outer s H vs Q E hr h => ?_)
  · obtain ⟨H0, x, Lc, Lt, l, cs, cs', us, us', w, t, rfl, hW, hl, hz, hc, hri, hfo, k⟩ := h
    rfl
  · obtain ⟨H0, x, Lc, Lt, l, cs, cs', us, us', w, t, rfl, hW, hl, hz, hc, hri, hfo, k⟩ := h
    refine ⟨_, (pss_cons (ps_fld (pv 0) (pe_call G_cue_list (hr.mono (by decide)) (by rfl) T.m_cue_list T.F_cue_list.kp T.bb_cue_list .nil passE0 (pa_cons (pv 2) pa_nil)) rfl)
      (pss_one (ps_expr (pe_meth (pv 0) T.cl_Walk T.me_Walk_note G_Walk_note (hr.mono (by decide)) T.bb_Walk_note .nil passE0 (pa_cons (pe_meth (pv 0) T.cl_Walk T.me_Walk_clock_top G_Walk_clock_top (hr.mono (by decide)) T.bd_Walk_clock_top T.dv_Walk_clock_top passE0 (pa_cons (pv 1) pa_nil)) (pa_cons pe_str pa_nil)))))), ?_⟩
    obtain ⟨dx, hx⟩ := hW.ob
    refine ⟨_, rfl, l, cs', us', rfl, hW.sm _ _ hl, hz, hc.keep hW.sm, hri, fun m H1 nm hm s1 => ?_⟩
    have hW1 := hW.keep s1
    have hx1 := s1 _ _ hx
    refine ⟨_, rfl, x, A.C_Walk, dx, _, rfl, hx1, T.cl_Walk, T.na_Walk_cues, (by show 6 < 1000; decide), ?_⟩
    have hW2 := hW1.recue hx1 hm hc hri hz hfo (fun e => by rw [e, hW.tr] at nm; cases nm)
    refine ⟨_, rfl, x, dx, _, rfl, upd_same, rfl, _, rfl, x, dx, _, rfl, upd_same, rfl, _, rfl, x, dx, m, Lt, w, t, 1, rfl, upd_same, ⟨by decide, by decide⟩, ?_⟩
    exact ⟨H0, x, m, Lt, cs', us', w, [], clk w t 1, "list", rfl, hW2, by decide, fun H' r hr h => k m r H' (congrArg (fun z : Row => z.2.1) hr) h⟩
def stepF (t : Rw) (d : Addr) (v : V) : List (Str × V) := [("clock", .int t.c), ("look", .ref d), ("cue", v), ("word", .str t.w)]
def spStep (A : Adr) : Sp := fun vs H Q _ => ∃ (Hb : Hp) (x dx d : Addr) (t : Rw) (cs : List Addr) (us : List Cu), vs = [.ref x, .ref t.r, .ref d] ∧ H x = some (.ins A.C_Step dx []) ∧ Same Hb H ∧ Hb x = none ∧ RowAt Hb cs t ∧ 0 ≤ t.n ∧ cs.length ≤ 900 ∧ Cues0 A Hb cs us ∧ Rising us ∧
  ∀ v H', H' x = some (.ins A.C_Step dx (stepF t d v)) → (∀ b o, b ≠ x → H b = some o → H' b = some o) → Q .non H'
theorem ok_Step_init (T : Txt K mg A) : FnOk P w K mg base (CXE P w) 4 A.f_Step_init A.d_Step_init ["self", "row", "look"] (spStep A) := by
  have G_cue_at := ok_cue_at (P := P) (w := w) (base := base) T
  refine T.F_Step_init.okN sc_Step_init (fun vs H Q E h => ?_) (fun cdv Ar outer s H vs Q E hr h => ?_)
  · obtain ⟨Hb, x, dx, d, t, cs, us, rfl, hx, sb, nx, hR, hn, hz, hc, hri, k⟩ := h
    rfl
  · obtain ⟨Hb, x, dx, d, t, cs, us, rfl, hx, sb, nx, hR, hn, hz, hc, hri, k⟩ := h
    refine ⟨_, (pss_cons (ps_fld (pv 0) (pe_ix (ix_tupK K) (pv 1) pe_int (fun _ _ => rfl)) rfl)
      (pss_cons (ps_fld (pv 0) (pv 2) rfl)
      (pss_cons (ps_fld (pv 0) (pe_call G_cue_at (hr.mono (by decide)) (by rfl) T.m_cue_at T.F_cue_at.kp T.bb_cue_at .nil passE0 (pa_cons (pe_ix (ix_tupK K) (pv 1) pe_int (fun _ _ => rfl)) (pa_cons (pe_ix (ix_tupK K) (pv 1) pe_int (fun _ _ => rfl)) pa_nil))) rfl)
      (pss_one (ps_fld (pv 0) (pe_ix (ix_tupK K) (pv 1) pe_int (fun _ _ => rfl)) rfl))))), ?_⟩
    refine ⟨_, rfl, t.r, _, _, _, rfl, rfl, SqT.of (sb _ _ hR.1), atI_0 _ _, _, rfl, x, A.C_Step, dx, _, rfl, hx, T.cl_Step, T.na_Step_clock, (by show 0 < 1000; decide), ?_⟩
    refine ⟨_, rfl, _, rfl, x, A.C_Step, dx, _, rfl, upd_same, T.cl_Step, T.na_Step_look, (by show 1 < 1000; decide), ?_⟩
    have s2 := (sb.upd (o := HO.ins A.C_Step dx [("clock", V.int t.c)]) nx).upd (o := HO.ins A.C_Step dx [("clock", V.int t.c), ("look", V.ref d)]) nx
    refine ⟨_, rfl, t.r, _, _, _, rfl, rfl, SqT.of (s2 _ _ hR.1), atI_1 _ _ _, _, rfl, t.r, _, _, _, rfl, rfl, SqT.of (s2 _ _ hR.1), atI_2 _ _ _ _, t.l, t.n, cs, us, rfl, hn, s2 _ _ hR.2, hz, hc.keep s2, hri, fun v H3 hv s3 => ?_⟩
    refine ⟨_, rfl, x, A.C_Step, dx, _, rfl, s3 _ _ upd_same, T.cl_Step, T.na_Step_cue, (by show 2 < 1000; decide), ?_⟩
    have s4 := (s2.trans s3).upd (o := HO.ins A.C_Step dx [("clock", V.int t.c), ("look", V.ref d), ("cue", v)]) nx
    refine ⟨_, rfl, t.r, _, _, _, rfl, rfl, SqT.of (s4 _ _ hR.1), atI_3 _ _ _ _ _, _, rfl, x, A.C_Step, dx, _, rfl, upd_same, T.cl_Step, T.na_Step_word, (by show 3 < 1000; decide), ?_⟩
    refine k v _ upd_same fun b o hb e => ?_
    rw [upd_ne hb, upd_ne hb]
    exact s3 _ _ (by rw [upd_ne hb, upd_ne hb]; exact e)
def StepOk (A : Adr) (H : Hp) (s : Addr) : Prop := ∃ dx t d v, H s = some (.ins A.C_Step dx (stepF t d v)) ∧ H d = some (.dT [])
def spSteps (A : Adr) : Sp := fun vs H Q _ => ∃ (L : Addr) (cs : List Addr) (us : List Cu) (ts : List Rw), vs = [.ref L] ∧ H L = some (.lst (ts.map fun t => V.ref t.r)) ∧ ts.length ≤ 1 ∧ (∀ t ∈ ts, RowAt H cs t ∧ 0 ≤ t.n) ∧ cs.length ≤ 900 ∧ Cues0 A H cs us ∧ Rising us ∧
  ∀ (S : Addr) (sts : List Addr) (H' : Hp), H' S = some (.lst (sts.map V.ref)) → (∀ s ∈ sts, StepOk A H' s) → Same H H' → Q (.ref S) H'
theorem val_put0 (k : Key) (v : V) : valV (putK [] k v) k = some v := by simp [valV, putK]
theorem ok_steps_of (T : Txt K mg A) : FnOk P w K mg base (CXE P w) 6 A.f_steps_of A.d_steps_of ["rows"] (spSteps A) := by
  have G_Step_init := ok_Step_init (P := P) (w := w) (base := base) T
  have G_shown := ok_shown (P := P) (w := w) (base := base) T
  refine T.F_steps_of.okN sc_steps_of (fun vs H Q E h => ?_) (fun cdv Ar outer s H vs Q E hr h => ?_)
  · obtain ⟨L, cs, us, ts, rfl, hL, hl1, hts, hz, hc, hri, k⟩ := h
    rfl
  · obtain ⟨L, cs, us, ts, rfl, hL, hl1, hts, hz, hc, hri, k⟩ := h
    refine ⟨_, (pss_cons (ps_set (i := 1) sc_steps_of.nd rfl (Or.inl rfl) (pe_lstS pa_nil))
      (pss_cons (ps_set (i := 2) sc_steps_of.nd rfl (Or.inl rfl) (pe_lstS pa_nil))
      (pss_cons (ps_set (i := 3) sc_steps_of.nd rfl (Or.inl rfl) pe_dnewK)
      (pss_cons (ps_for PassesOwn.never rfl (pi_listK K (pv 0)) (pg_name (i := 4) sc_steps_of.nd rfl (Or.inl rfl)) (pss_cons (ps_if (pt_cmpR (op_neE K hr.units) (pe_ix (ix_tupK K) (pv 4) pe_int (fun _ _ => rfl)) (pv 2) (nomark _)) (pss_cons (ps_set (i := 2) sc_steps_of.nd rfl (Or.inl rfl) (pe_ix (ix_tupK K) (pv 4) pe_int (fun _ _ => rfl)))
      (pss_one (ps_set (i := 3) sc_steps_of.nd rfl (Or.inl rfl) pe_dnewK))) pss_nil)
      (pss_cons (ps_if (pt_cmp (pc_dnotin (hu1 hr) (pe_ix (ix_tupK K) (pv 4) pe_int (fun _ _ => rfl)) (pv 3))) (pss_one (ps_dput (hu1 hr) (pv 3) (pe_ix (ix_tupK K) (pv 4) pe_int (fun _ _ => rfl)) (pe_call G_shown (hr.mono (by decide)) (by rfl) T.m_shown T.F_shown.kp T.bb_shown .nil passE0 (pa_cons (pv 2) (pa_cons (pe_ix (ix_tupK K) (pv 4) pe_int (fun _ _ => rfl)) pa_nil))) rfl)) pss_nil)
      (pss_one (ps_expr (pe_bmK K PySem.F.plainAttrs_list PySem.F.slot_list_append PySem.F.type_list_append mt_append (pv 1) (pa_cons (pe_make T.M_Step G_Step_init (hr.mono (by decide)) (by rfl) T.c_Step T.bb_Step_init .nil passE0 (pa_cons (pv 4) (pa_cons (pe_dget (hu1 hr) (pv 3) (pe_ix (ix_tupK K) (pv 4) pe_int (fun _ _ => rfl)) (fun _ _ => rfl)) pa_nil))) pa_nil)))))))
      (pss_one (ps_ret (pv 1))))))), ?_⟩
    refine seq_cut3 (fun σ' H' => ∃ S Lu D, σ' = [some (.ref L), some (.ref S), some (.ref Lu), some (.ref D), none] ∧ Same H H' ∧ H S = none ∧ H' S = some (.lst []) ∧ H' Lu = some (.lst []) ∧ H D = none ∧ H' D = some (.dK [])) (fun N hN => ?_) ?_
    · refine ⟨by decide, fun S hS => ⟨by decide, fun Lu hLu => fun D hD => ?_⟩⟩
      have s1 := Same.new (o := HO.lst []) hS
      have s2 := Same.new (o := HO.lst []) hLu
      have s3 := Same.new (o := HO.dK []) hD
      exact hN _ _ ⟨S, Lu, D, rfl, s1.trans (s2.trans s3), hS, s3 _ _ (s2 _ _ upd_same), s3 _ _ upd_same, (s1.trans s2).free hD, upd_same⟩
    rintro σ' H1 ⟨S, Lu, D, rfl, s1, nS, hS, hLu, nD, hD⟩
    refine seq_cut (fun σ' H' => ∃ (sts : List Addr) (v1 v2 v3 : Option V), σ' = [some (.ref L), some (.ref S), v1, v2, v3] ∧ H' S = some (.lst (sts.map V.ref)) ∧ (∀ s ∈ sts, StepOk A H' s) ∧ Same H H') (fun N hN => ?_) ?_
    · refine ⟨_, rfl, L, rfl, ⟨_, SqL.of (s1 _ _ hL)⟩, for_list (xs := ts.map fun t => V.ref t.r) (fun i σ' H' => ∃ (sts : List Addr) (v1 v2 v3 : Option V), σ' = [some (.ref L), some (.ref S), v1, v2, v3] ∧ H' S = some (.lst (sts.map V.ref)) ∧ (∀ s ∈ sts, StepOk A H' s) ∧ Same H H' ∧ (i = 0 → sts = [] ∧ v1 = some (.ref Lu) ∧ v2 = some (.ref D) ∧ H' = H1)) ⟨[], _, _, _, rfl, hS, by simp, s1, fun _ => ⟨rfl, rfl, rfl, rfl⟩⟩ ?_ ?_ ?_⟩
      · rintro i σ' H' _ ⟨_, _, _, _, _, _, _, sm, _⟩
        exact SqL.of (sm _ _ hL)
      · rintro i v σ' H2 hv ⟨sts, v1, v2, v3, rfl, hS2, hok, sm, h0⟩
        have hi : i = 0 := by
          have := (List.getElem?_eq_some_iff.mp hv).1
          rw [List.length_map] at this
          omega
        subst hi
        obtain ⟨rfl, rfl, rfl, rfl⟩ := h0 rfl
        rw [List.getElem?_map] at hv
        cases hti : ts[0]? with
        | none => rw [hti] at hv; cases hv
        | some t =>
          rw [hti] at hv
          obtain rfl : V.ref t.r = v := by simpa using hv
          obtain ⟨hR, hn⟩ := hts t (List.mem_of_getElem? hti)
          refine seq_cut (fun σ' H' => ∃ (M D2 : Addr), σ' = [some (.ref L), some (.ref S), some (.ref M), some (.ref D2), some (.ref t.r)] ∧ H' M = some (.lst (cs.map V.ref)) ∧ H D2 = none ∧ H' D2 = some (.dK []) ∧ Same H H' ∧ H' S = some (.lst [])) (fun N2 hN2 => ?_) ?_
          · refine ⟨_, rfl, t.r, _, _, _, rfl, rfl, SqT.of (sm _ _ hR.1), atI_1 _ _ _, _, rfl, t.l, Lu, _, rfl, rfl, SqL.of (sm _ _ hR.2), SqL.of hLu, _, rfl, ?_⟩
            cases hcs : cs with
            | nil =>
              refine iteF (hN2 _ _ ⟨Lu, D, rfl, by rw [hcs]; exact hLu, nD, hD, sm, hS⟩)
            | cons c r =>
              refine iteT ?_
              refine ⟨_, rfl, t.r, _, _, _, rfl, rfl, SqT.of (sm _ _ hR.1), atI_1 _ _ _, fun D2 hD2 => ?_⟩
              have s2 := Same.new (o := HO.dK []) hD2
              exact hN2 _ _ ⟨t.l, D2, rfl, s2 _ _ (sm _ _ hR.2), sm.free hD2, upd_same, sm.trans s2, s2 _ _ hS⟩
          rintro σ' H3 ⟨M, D2, rfl, hM, nD2, hD2, s3, hS3⟩
          refine seq_cut (fun σ' H' => ∃ d, σ' = [some (.ref L), some (.ref S), some (.ref M), some (.ref D2), some (.ref t.r)] ∧ H' D2 = some (.dK (putK [] (Sum.inl t.n) (.ref d))) ∧ H' d = some (.dT []) ∧ Same H H' ∧ H' S = some (.lst [])) (fun N2 hN2 => ?_) ?_
          · refine ⟨_, rfl, t.r, _, _, _, rfl, rfl, SqT.of (s3 _ _ hR.1), atI_2 _ _ _ _, _, rfl, D2, none, rfl, DGet.k (k := Sum.inl t.n) hD2, _, rfl, iteT ?_⟩
            refine ⟨_, rfl, _, rfl, t.r, _, _, _, rfl, rfl, SqT.of (s3 _ _ hR.1), atI_2 _ _ _ _, M, t.n, cs, us, rfl, hn, hM, hz, hc.keep s3, hri, fun d H4 nd hd s4 => ?_⟩
            have s34 := s3.trans s4
            refine ⟨_, rfl, _, rfl, t.r, _, _, _, rfl, rfl, SqT.of (s34 _ _ hR.1), atI_2 _ _ _ _, D2, _, rfl, DPut.k (k := Sum.inl t.n) (s4 _ _ hD2) (by decide), ?_⟩
            have n1 : d ≠ D2 := ne_of hd (s4 _ _ hD2) (by intro z; cases z)
            have n2 : S ≠ D2 := ne_of (s4 _ _ hS3) (s4 _ _ hD2) (by intro z; cases z)
            exact hN2 _ _ ⟨d, rfl, upd_same, by rw [upd_ne n1]; exact hd, s34.upd nD2, by rw [upd_ne n2]; exact s4 _ _ hS3⟩
          rintro σ' H4 ⟨d, rfl, hD4, hd4, s4, hS4⟩
          refine ⟨_, rfl, .inl ⟨rfl, _, SqL.of hS4⟩, _, rfl, _, rfl, _, rfl, t.r, _, _, _, rfl, rfl, SqT.of (s4 _ _ hR.1), atI_2 _ _ _ _, D2, .ref d, rfl, ?_, ?_⟩
          · have := DGet.k (k := Sum.inl t.n) hD4
            rw [val_put0] at this
            exact this
          intro x dx nx ndx nex
          have s5 : Same H4 (upd (upd H4 dx (.own x)) x (.ins A.C_Step dx [])) := (Same.new ndx).upd nx
          refine ⟨H, x, dx, d, t, cs, us, rfl, upd_same, s4.trans s5, s4.free nx, hR, hn, hz, hc, hri, fun v H6 h6 kp => ⟨rfl, ?_⟩⟩
          have s6 : Same H4 H6 := fun b o e => kp b o (ne_of_none e nx) (s5 _ _ e)
          have nSx : x ≠ S := ne_of h6 (s6 _ _ hS4) (by intro z; cases z)
          have nSd : d ≠ S := ne_of hd4 hS4 (by intro z; cases z)
          refine ⟨S, [], V.ref x, rfl, rfl, s6 _ _ hS4, by decide, ⟨[x], _, _, _, rfl, upd_same, fun s hs => ?_, (s4.trans s6).upd nS, fun z => by cases z⟩⟩
          rw [List.mem_singleton] at hs
          subst hs
          exact ⟨dx, t, d, v, by rw [upd_ne nSx]; exact h6, by rw [upd_ne nSd]; exact s6 _ _ hd4⟩
      · rintro σ' H2 ⟨sts, v1, v2, v3, rfl, hS2, hok, sm, _⟩
        exact hN _ _ ⟨sts, v1, v2, v3, rfl, hS2, hok, sm⟩
    rintro σ' H2 ⟨sts, v1, v2, v3, rfl, hS2, hok, s2⟩
    exact ⟨_, rfl, k S sts H2 hS2 hok s2⟩
theorem StepOk.keep {A : Adr} {H H' : Hp} {s : Addr} (h : StepOk A H s) (sm : Same H H') : StepOk A H' s := by
  obtain ⟨dx, t, d, v, a, b⟩ := h
  exact ⟨dx, t, d, v, sm _ _ a, sm _ _ b⟩
def spTell (A : Adr) : Sp := fun vs H Q _ => ∃ (d L : Addr) (cs : List Addr) (us : List Cu) (ts : List Rw), vs = [.ref d, .ref L] ∧ H d = some (.dT []) ∧ H L = some (.lst (ts.map fun t => V.ref t.r)) ∧ ts.length ≤ 1 ∧ (∀ t ∈ ts, RowAt H cs t ∧ 0 ≤ t.n) ∧ cs.length ≤ 900 ∧ Cues0 A H cs us ∧ Rising us ∧
  ∀ H', Same H H' → Q .non H'
theorem ok_tell_rows (T : Txt K mg A) : FnOk P w K mg base (CXE P w) 7 A.f_tell_rows A.d_tell_rows ["courses", "rows"] (spTell A) := by
  have G_steps_of := ok_steps_of (P := P) (w := w) (base := base) T
  refine T.F_tell_rows.okN sc_tell_rows (fun vs H Q E h => ?_) (fun cdv Ar outer s H vs Q E hr h => ?_)
  · obtain ⟨d, L, cs, us, ts, rfl, hd, hL, hl1, hts, hz, hc, hri, k⟩ := h
    rfl
  · obtain ⟨d, L, cs, us, ts, rfl, hd, hL, hl1, hts, hz, hc, hri, k⟩ := h
    refine ⟨_, (pss_one (ps_for PassesOwn.never rfl (pi_listK K (pe_call G_steps_of (hr.mono (by decide)) (by rfl) T.m_steps_of T.F_steps_of.kp T.bb_steps_of .nil passE0 (pa_cons (pv 1) pa_nil))) (pg_name (i := 2) sc_tell_rows.nd rfl (Or.inl rfl)) (pss_cons (ps_hold (ps_for PassesOwn.never rfl (pi_key (pe_fldK K (pv 2))) (pg_name (i := 3) sc_tell_rows.nd rfl (Or.inl rfl)) pss_never))
      (pss_one (ps_hold (ps_for PassesOwn.never rfl (pi_items (pe_items (pv 0))) (pg_tupK (n := 2) K rfl (pgs_cons (pg_name (i := 3) sc_tell_rows.nd rfl (Or.inl rfl)) (pgs_cons (pg_name (i := 4) sc_tell_rows.nd rfl (Or.inl rfl)) pgs_nil))) pss_never)))))), ?_⟩
    refine ⟨_, rfl, L, cs, us, ts, rfl, hL, hl1, hts, hz, hc, hri, fun S sts H1 hS hok s1 => ?_⟩
    refine ⟨S, rfl, ⟨_, SqL.of hS⟩, for_list (xs := sts.map V.ref) (fun i σ' H' => ∃ v1, σ' = [some (.ref d), some (.ref L), v1, none, none] ∧ Same H1 H') ⟨_, rfl, Same.refl _⟩ ?_ ?_ ?_⟩
    · rintro i σ' H' _ ⟨_, _, sm⟩
      exact SqL.of (sm _ _ hS)
    · rintro i v σ' H2 hv ⟨v1, rfl, sm⟩
      rw [List.getElem?_map] at hv
      cases hsi : sts[i]? with
      | none => rw [hsi] at hv; cases hv
      | some s =>
        rw [hsi] at hv
        obtain rfl : V.ref s = v := by simpa using hv
        obtain ⟨dx, t, e, v, hs, he⟩ := (hok s (List.mem_of_getElem? hsi)).keep sm
        refine seq_cut (fun σ' H' => σ' = [some (.ref d), some (.ref L), some (.ref s), none, none] ∧ Same H2 H') (fun N hN => ?_) ?_
        · refine ⟨e, [], he, fun o xs es ep D kt => ?_⟩
          have hk := keys_vals D
          rw [kt0 kt] at hk
          refine ⟨_, rfl, s, A.C_Step, dx, _, _, rfl, by rw [upd_ne (ne_of hs he (by intro z; cases z))]; exact hs, T.cl_Step, T.na_Step_look, rfl, e, o, [], es, ep, rfl, upd_same, D.sys, D.ex, D.data, hk, for_no ⟨upd_same, Nat.le_refl _⟩ ?_⟩
          exact ⟨upd_same, ts_hold he (Same.refl _), hN _ _ ⟨rfl, sm_hold he (Same.refl _)⟩⟩
        rintro σ' H3 ⟨rfl, s3⟩
        have hd3 := s3 _ _ (sm _ _ (s1 _ _ hd))
        refine ⟨d, [], hd3, fun o xs es ep D kt => ?_⟩
        have hk := keys_vals D
        rw [kt0 kt] at hk
        have hv := vals_vals D kt
        refine ⟨_, rfl, d, o, es, ep, rfl, upd_same, D.sys, D.ex, D.data, fun p hp => ?_⟩
        have pd : d ≠ p := by rintro rfl; rw [upd_same] at hp; cases hp
        refine ⟨p, d, o, [], [], es, ep, rfl, upd_same, by rw [upd_ne pd, upd_same], D.ex, D.data, hk, hv, for_no ⟨by rw [upd_ne pd, upd_same], Nat.le_refl _⟩ ?_⟩
        exact ⟨by rw [upd_ne pd, upd_same], ts_hold hd3 (Same.new hp), ⟨_, rfl, sm.trans (s3.trans (sm_hold hd3 (Same.new hp)))⟩⟩
    · rintro σ' H2 ⟨v1, rfl, sm⟩
      exact k _ (s1.trans sm)
def runF (x d : Addr) (last : V) : List (Str × V) := [("walk", .ref x), ("courses", .ref d), ("last", last)]
abbrev plainW (n : Int) : Wk := ⟨n, 0, none, none⟩
structure NotCue (H : Hp) (r : Addr) : Prop where
  cue : ∀ C d n L st fo, H r ≠ some (.ins C d (cueF n L st fo))
  part : ∀ C d d1 d2, H r ≠ some (.ins C d (partF d1 d2))
  lst : ∀ xs, H r ≠ some (.lst xs)
  dct : ∀ kvs, H r ≠ some (.dT kvs)
theorem NotCue.run {H : Hp} {r C dr x d : Addr} {last : V} (h : H r = some (.ins C dr (runF x d last))) : NotCue H r := by
  refine ⟨fun C d n L st fo e => ?_, fun C d d1 d2 e => ?_, fun xs e => (by rw [h] at e; cases e), fun kvs e => (by rw [h] at e; cases e)⟩
  · rw [h] at e
    have := (HO.ins.inj (Option.some.inj e)).2.2
    have := (Prod.mk.inj (List.cons.inj this).1).1
    exact absurd this (by decide +kernel)
  · rw [h] at e
    have := (HO.ins.inj (Option.some.inj e)).2.2
    have := (Prod.mk.inj (List.cons.inj this).1).1
    exact absurd this (by decide +kernel)
theorem NotCue.new {H : Hp} {r C dr : Addr} (h : H r = some (.ins C dr [])) : NotCue H r :=
  ⟨fun C d n L st fo e => (by rw [h] at e; cases (HO.ins.inj (Option.some.inj e)).2.2), fun C d d1 d2 e => (by rw [h] at e; cases (HO.ins.inj (Option.some.inj e)).2.2), fun xs e => (by rw [h] at e; cases e), fun kvs e => (by rw [h] at e; cases e)⟩
def Frame (r : Addr) (H H' : Hp) : Prop := ∀ b o, b ≠ r → H b = some o → H' b = some o
theorem Frame.of {r : Addr} {H H' : Hp} (s : Same H H') : Frame r H H' := fun b o _ e => s b o e
theorem Frame.put {r : Addr} {H H' : Hp} {o : HO} (f : Frame r H H') : Frame r H (upd H' r o) := fun b u hb e => by rw [upd_ne hb]; exact f b u hb e
theorem Cue0.off {A : Adr} {H H' : Hp} {r c : Addr} {n : Int} {st : Bool} {fo : V} (h : Cue0 A H c n st fo) (nc : NotCue H r) (f : Frame r H H') : Cue0 A H' c n st fo := by
  obtain ⟨dx, L, ps, e, eL, h1, hp⟩ := h
  refine ⟨dx, L, ps, f _ _ (fun z => nc.cue _ _ _ _ _ _ (by rw [← z]; exact e)) e, f _ _ (fun z => nc.lst _ (by rw [← z]; exact eL)) eL, h1, fun p hp' => ?_⟩
  obtain ⟨dp, d1, d2, g, g1, g2⟩ := hp p hp'
  exact ⟨dp, d1, d2, f _ _ (fun z => nc.part _ _ _ _ (by rw [← z]; exact g)) g, f _ _ (fun z => nc.dct _ (by rw [← z]; exact g1)) g1, f _ _ (fun z => nc.dct _ (by rw [← z]; exact g2)) g2⟩
theorem Cues0.off {A : Adr} {H H' : Hp} {r : Addr} {cs : List Addr} {us : List Cu} (h : Cues0 A H cs us) (nc : NotCue H r) (f : Frame r H H') : Cues0 A H' cs us := Paired.mapP h fun _ _ q => q.off nc f
structure RunAt (A : Adr) (H : Hp) (r : Addr) (us : List Cu) (n : Int) (last : V) : Prop where
  ex : ∃ (dr x dx d Lc Lt : Addr) (cs : List Addr), H r = some (.ins A.C_Run dr (runF x d last)) ∧ H d = some (.dT []) ∧ H x = some (.ins A.C_Walk dx (walkF Lc Lt (plainW n))) ∧ H Lc = some (.lst (cs.map V.ref)) ∧ cs.length ≤ 900 ∧ Cues0 A H cs us
  ri : Rising us
  fo : ∀ u ∈ us, u.fo = .non ∧ 1 ≤ u.n
  nn : 0 ≤ n
theorem RunAt.keep {A : Adr} {H H' : Hp} {r : Addr} {us : List Cu} {n : Int} {last : V} (h : RunAt A H r us n last) (s : Same H H') : RunAt A H' r us n last := by
  obtain ⟨dr, x, dx, d, Lc, Lt, cs, e1, e2, e3, e4, e5, e6⟩ := h.ex
  exact ⟨⟨dr, x, dx, d, Lc, Lt, cs, s _ _ e1, s _ _ e2, s _ _ e3, s _ _ e4, e5, e6.keep s⟩, h.ri, h.fo, h.nn⟩
theorem fo_ok {us : List Cu} (h : ∀ u ∈ us, u.fo = .non ∧ 1 ≤ u.n) : ∀ u ∈ us, FoOk u.fo ∧ 1 ≤ u.n := fun u hu => ⟨.inl (h u hu).1, (h u hu).2⟩
def spRun0 (A : Adr) : Sp := fun vs H Q _ => ∃ (r dr l : Addr) (cs : List Addr) (us : List Cu), vs = [.ref r, .ref l] ∧ H r = some (.ins A.C_Run dr []) ∧ H l = some (.lst (cs.map V.ref)) ∧ cs.length ≤ 900 ∧ Cues0 A H cs us ∧ Rising us ∧ (∀ u ∈ us, u.fo = .non ∧ 1 ≤ u.n) ∧
  ∀ H', RunAt A H' r us 0 .non → Frame r H H' → Q .non H'
theorem ok_Run_init (T : Txt K mg A) : FnOk P w K mg base (CXE P w) 4 A.f_Run_init A.d_Run_init ["self", "cues"] (spRun0 A) := by
  have G_Walk_init := ok_Walk_init (P := P) (w := w) (base := base) T
  refine T.F_Run_init.okN sc_Run_init (fun vs H Q E h => ?_) (fun cdv Ar outer s H vs Q E hr h => ?_)
  · obtain ⟨r, dr, l, cs, us, rfl, hq, hl, hz, hc, hri, hfo, k⟩ := h
    rfl
  · obtain ⟨r, dr, l, cs, us, rfl, hq, hl, hz, hc, hri, hfo, k⟩ := h
    refine ⟨_, (pss_cons (ps_fld (pv 0) (pe_make T.M_Walk G_Walk_init (hr.mono (by decide)) (by rfl) T.c_Walk T.bb_Walk_init .nil passE0 (pa_cons (pv 1) pa_nil)) rfl)
      (pss_cons (ps_fld (pv 0) pe_dnewT rfl)
      (pss_one (ps_fld (pv 0) pe_non rfl)))), ?_⟩
    refine ⟨_, rfl, fun y dy ny ndy nex => ⟨y, dy, l, cs, us, rfl, upd_same, ?_⟩⟩
    have s0 : Same H (upd (upd H dy (.own y)) y (.ins A.C_Walk dy [])) := (Same.new ndy).upd ny
    refine ⟨s0 _ _ hl, hz, hc.keep s0, hri, fun Lc Lt H1 h1 h2 h3 h4 h5 h6 h7 => ⟨rfl, ?_⟩⟩
    have s1 : Same H H1 := fun b o e => h7 b o (ne_of_none e ny) (s0 _ _ e)
    have nry : y ≠ r := fun e => by rw [e, hq] at ny; cases ny
    refine ⟨_, rfl, r, A.C_Run, dr, _, rfl, s1 _ _ hq, T.cl_Run, T.na_Run_walk, (by show 0 < 1000; decide), ?_⟩
    intro d hd
    have ndr : d ≠ r := fun e => by rw [e, upd_same] at hd; cases hd
    have hd1 : H1 d = none := by rw [upd_ne ndr] at hd; exact hd
    refine ⟨_, rfl, r, A.C_Run, dr, _, rfl, by rw [upd_ne (Ne.symm ndr), upd_same], T.cl_Run, T.na_Run_courses, (by show 1 < 1000; decide), ?_⟩
    refine ⟨_, rfl, r, A.C_Run, dr, _, rfl, upd_same, T.cl_Run, T.na_Run_last, (by show 2 < 1000; decide), ?_⟩
    have f1 : Frame r H1 (upd (upd (upd (upd H1 r (.ins A.C_Run dr [("walk", .ref y)])) d (.dT [])) r (.ins A.C_Run dr [("walk", .ref y), ("courses", .ref d)])) r (.ins A.C_Run dr (runF y d .non))) := fun b o hb e => by
      rw [upd_ne hb, upd_ne hb, upd_ne (ne_of_none e hd1), upd_ne hb]; exact e
    refine k _ ⟨⟨dr, y, dy, d, Lc, Lt, cs, upd_same, ?_, f1 _ _ nry h1, f1 _ _ (ne_of h2 (s1 _ _ hq) (by intro z; cases z)) h2, hz, (hc.keep s1).off (NotCue.new (s1 _ _ hq)) f1⟩, hri, hfo, Int.le_refl _⟩ fun b o hb e => f1 _ _ hb (s1 _ _ e)
    rw [upd_ne ndr, upd_ne ndr, upd_same]
def LastOk (last : V) (top b : Int) : Prop := last = .non ∨ ∃ L : Int, last = .int L ∧ L * b ≤ top
def spTo (A : Adr) : Sp := fun vs H Q _ => ∃ (r : Addr) (us : List Cu) (n : Int) (last : V) (top b : Int), vs = [.ref r, .int top, .int b] ∧ RunAt A H r us n last ∧ LastOk last top b ∧ Sm64 b ∧
  ∀ y Lc Lt cs H', WalkAt A H H' y Lc Lt cs us (plainW n) [] → Q (.ref y) H'
theorem ok_Run_walked_to (T : Txt K mg A) : FnOk P w K mg base (CXE P w) 6 A.f_Run_walked_to A.d_Run_walked_to ["self", "top", "bottom"] (spTo A) := by
  have G_Walk_come_to := ok_Walk_come_to (P := P) (w := w) (base := base) T
  have G_forked := ok_forked (P := P) (w := w) (base := base) T
  refine T.F_Run_walked_to.okN sc_Run_walked_to (fun vs H Q E h => ?_) (fun cdv Ar outer s H vs Q E hr h => ?_)
  · obtain ⟨r, us, n, last, top, b, rfl, hR, hlast, hb, k⟩ := h
    rfl
  · obtain ⟨r, us, n, last, top, b, rfl, hR, hlast, hb, k⟩ := h
    refine ⟨_, (pss_cons (ps_if (PW.pt (pw_and (pt_cmp (pc_notN (pe_fldK K (pv 0)))) (pw_and1 (pt_cmpR op_lt (pv 1) (pe_op op_mul (pe_fldK K (pv 0)) (pv 2)) (nomark _))))) (pss_one ps_never) pss_nil)
      (pss_cons (ps_set (i := 3) sc_Run_walked_to.nd rfl (Or.inl rfl) (pe_call G_forked (hr.mono (by decide)) (by rfl) T.m_forked T.F_forked.kp T.bb_forked .nil passE0 (pa_cons (pe_fldK K (pv 0)) pa_nil)))
      (pss_cons (ps_expr (pe_meth (pv 3) T.cl_Walk T.me_Walk_come_to G_Walk_come_to (hr.mono (by decide)) T.bb_Walk_come_to .nil passE0 (pa_cons (pv 1) (pa_cons (pv 2) pa_nil))))
      (pss_one (ps_ret (pv 3)))))), ?_⟩
    obtain ⟨dr, x, dx, d, Lc, Lt, cs, e1, e2, e3, e4, e5, e6⟩ := hR.ex
    have hcl : cs.length = us.length := Paired.length e6
    refine seq_cut (fun σ' H' => σ' = [some (.ref r), some (.int top), some (.int b), none] ∧ H' = H) (fun N hN => ?_) ?_
    · refine ⟨_, rfl, r, A.C_Run, dr, _, _, rfl, e1, T.cl_Run, T.na_Run_last, rfl, _, rfl, ?_⟩
      rcases hlast with rfl | ⟨L, rfl, hL⟩
      · exact iteF (iteF (hN _ _ ⟨rfl, rfl⟩))
      · refine iteT ⟨_, rfl, _, rfl, r, A.C_Run, dr, _, _, rfl, e1, T.cl_Run, T.na_Run_last, rfl, _, rfl, L, b, rfl, rfl, .inr ⟨hb.1, hb.2⟩, _, _, rfl, rfl, _, rfl, ?_⟩
        rw [decide_eq_false (show ¬ top < L * b by omega)]
        exact iteF (hN _ _ ⟨rfl, rfl⟩)
    rintro σ' H0 ⟨rfl, rfl⟩
    refine seq_cut (fun σ' H' => ∃ y Lc' Lt', σ' = [some (.ref r), some (.int top), some (.int b), some (.ref y)] ∧ WalkAt A H0 H' y Lc' Lt' cs us (plainW n) []) (fun N hN => ?_) ?_
    · exact ⟨_, rfl, r, A.C_Run, dr, _, _, rfl, e1, T.cl_Run, T.na_Run_walk, rfl, x, dx, Lc, Lt, cs, us, plainW n, rfl, e3, e4, e5, e6, hR.ri, fo_ok hR.fo, hR.nn, fun y Lc' Lt' H' hW => hN _ _ ⟨y, Lc', Lt', rfl, hW⟩⟩
    rintro σ' H1 ⟨y, Lc', Lt', rfl, hW⟩
    obtain ⟨dy, hy⟩ := hW.ob
    refine ⟨_, rfl, y, dy, _, rfl, hy, rfl, _, rfl, _, rfl, H0, y, Lc', Lt', cs, us, plainW n, [], top, b, rfl, hW, by simp; omega, hb, fun H2 n' d' ts1 hcm _ hW2 => ?_⟩
    obtain ⟨q1, rfl, rfl⟩ := comes_none hcm
    rw [List.map_eq_nil_iff.mp q1] at hW2
    exact ⟨_, rfl, k y Lc' Lt' cs H2 hW2⟩
def spTake (A : Adr) : Sp := fun vs H Q _ => ∃ (Hb : Hp) (r y Lc Lt : Addr) (cs : List Addr) (us us0 : List Cu) (n n0 t : Int) (last : V) (ts : List Rw), vs = [.ref r, .int t, .ref y] ∧ RunAt A Hb r us0 n0 last ∧ WalkAt A Hb H y Lc Lt cs us (plainW n) ts ∧ ts.length ≤ 1 ∧ (∀ q ∈ ts, 0 ≤ q.n) ∧ (∀ u ∈ us, u.fo = .non ∧ 1 ≤ u.n) ∧
  ∀ H', RunAt A H' r us n (.int t) → Frame r Hb H' → Q (.int n) H'
theorem ok_Run_take (T : Txt K mg A) : FnOk P w K mg base (CXE P w) 8 A.f_Run_take A.d_Run_take ["self", "tick", "walk"] (spTake A) := by
  have G_Walk_come_to := ok_Walk_come_to (P := P) (w := w) (base := base) T
  have G_tell_rows := ok_tell_rows (P := P) (w := w) (base := base) T
  refine T.F_Run_take.okN sc_Run_take (fun vs H Q E h => ?_) (fun cdv Ar outer s H vs Q E hr h => ?_)
  · obtain ⟨Hb, r, y, Lc, Lt, cs, us, us0, n, n0, t, last, ts, rfl, hR, hW, hl1, hq, hfo, k⟩ := h
    rfl
  · obtain ⟨Hb, r, y, Lc, Lt, cs, us, us0, n, n0, t, last, ts, rfl, hR, hW, hl1, hq, hfo, k⟩ := h
    refine ⟨_, (pss_cons (ps_expr (pe_meth (pv 2) T.cl_Walk T.me_Walk_come_to G_Walk_come_to (hr.mono (by decide)) T.bd_Walk_come_to T.dv_Walk_come_to passE0 (pa_cons (pv 1) pa_nil)))
      (pss_cons (ps_expr (pe_call G_tell_rows (hr.mono (by decide)) (by rfl) T.m_tell_rows T.F_tell_rows.kp T.bb_tell_rows .nil passE0 (pa_cons (pe_fldK K (pv 0)) (pa_cons (pe_fldK K (pv 2)) pa_nil))))
      (pss_cons (ps_fld (pv 0) (pv 2) rfl)
      (pss_cons (ps_fld (pv 0) (pv 1) rfl)
      (pss_one (ps_ret (pe_fldK K (pv 2)))))))), ?_⟩
    obtain ⟨dr, x, dx, d, Lc0, Lt0, cs0, e1, e2, e3, e4, e5, e6⟩ := hR.ex
    have hcl : cs.length = us.length := Paired.length hW.ok
    have hz := hW.sz
    obtain ⟨dy, hy⟩ := hW.ob
    refine ⟨_, rfl, y, dy, _, rfl, hy, rfl, _, rfl, Hb, y, Lc, Lt, cs, us, plainW n, ts, t, 1, rfl, hW, by omega, ⟨by decide, by decide⟩, fun H2 n' d' ts1 hcm _ hW2 => ?_⟩
    obtain ⟨q1, rfl, rfl⟩ := comes_none hcm
    rw [List.map_eq_nil_iff.mp q1, List.append_nil] at hW2
    obtain ⟨dy2, hy2⟩ := hW2.ob
    refine ⟨_, rfl, r, A.C_Run, dr, _, _, rfl, hW2.sm _ _ e1, T.cl_Run, T.na_Run_courses, rfl, _, rfl, y, A.C_Walk, dy2, _, _, rfl, hy2, T.cl_Walk, T.na_Walk_trail, rfl, d, Lt, cs, us, ts, rfl, hW2.sm _ _ e2, hW2.tr, hl1, fun q h => ⟨(hW2.rs q h).1, hq q h⟩, hW2.sz, hW2.ok.keep hW2.sm, hW2.ri, fun H3 s3 => ?_⟩
    have e13 := s3 _ _ (hW2.sm _ _ e1)
    refine ⟨_, rfl, _, rfl, r, A.C_Run, dr, _, rfl, e13, T.cl_Run, T.na_Run_walk, (by show 3 < 1000; decide), ?_⟩
    refine ⟨_, rfl, _, rfl, r, A.C_Run, dr, _, rfl, upd_same, T.cl_Run, T.na_Run_last, (by show 3 < 1000; decide), ?_⟩
    have f1 : Frame r H3 (upd (upd H3 r (.ins A.C_Run dr (runF y d last))) r (.ins A.C_Run dr (runF y d (.int t)))) := ((Frame.of (Same.refl _)).put).put
    have nyr : y ≠ r := fun e => by have := hW.fx; rw [e, e1] at this; cases this
    have hd3 := s3 _ _ (hW2.sm _ _ e2)
    have hL3 := s3 _ _ hW2.cu
    refine ⟨_, rfl, y, A.C_Walk, dy2, _, _, rfl, f1 _ _ nyr (s3 _ _ hy2), T.cl_Walk, T.na_Walk_number, rfl, ?_⟩
    refine k _ ⟨⟨dr, y, dy2, d, Lc, Lt, cs, upd_same, f1 _ _ (ne_of hd3 e13 (by intro z; cases z)) hd3, f1 _ _ nyr (s3 _ _ hy2), f1 _ _ (ne_of hL3 e13 (by intro z; cases z)) hL3, hW2.sz, (hW2.ok.keep (hW2.sm.trans s3)).off (NotCue.run e13) f1⟩, hW2.ri, hfo, hW2.nn⟩ fun b o hb e => f1 _ _ hb (s3 _ _ (hW2.sm _ _ e))
def spUndone (A : Adr) : Sp := fun vs H Q E => ∃ b : Bool, vs = [.bl b] ∧ (b = true → Q .non H) ∧ (b = false → E (.ref A.C_NoCue) none H)
theorem ok_refuse_undone (T : Txt K mg A) : FnOk P w K mg base (CXE P w) 1 A.f_refuse_undone A.d_refuse_undone ["done"] (spUndone A) := by
  refine T.F_refuse_undone.okE sc_refuse_undone (fun vs H Q E h => ?_) (fun cdv Ar outer s H vs Q E hr h => ?_)
  · obtain ⟨b, rfl, k, e⟩ := h
    rfl
  · obtain ⟨b, rfl, k, e⟩ := h
    refine ⟨_, (pss_one (ps_if (pt_not (pt_val (pv 0))) (pss_one (ps_raise T.x_NoCue (by rfl) T.c_NoCue (pa_cons pe_str pa_nil))) pss_nil)), ?_⟩
    refine ⟨_, rfl, _, rfl, ?_⟩
    cases b with
    | true => exact iteF (k rfl)
    | false => exact iteT ⟨by decide, e rfl⟩
theorem on_plain (n t m : Int) : ({ onW (plainW n) t with num := m, due := none } : Wk) = plainW m := by
  show Wk.mk m (t - (t - 0 * 1)) none none = Wk.mk m 0 none none
  rw [show t - (t - 0 * 1) = (0 : Int) by omega]
theorem gone_plain (n t : Int) (u : Cu) (h : u.fo = .non) : goneTo (plainW n) t u = plainW u.n := by
  unfold goneTo
  rw [h]
  exact on_plain n t u.n
theorem one_row {ts1 : List Rw} {c m : Int} {wd : Str} (h : ts1.map Rw.d = [(c, m, wd)]) : ∃ q, ts1 = [q] ∧ q.n = m := by
  have l := congrArg List.length h
  rw [List.length_map] at l
  obtain ⟨q, rfl⟩ := List.length_eq_one_iff.mp l
  exact ⟨q, rfl, congrArg (fun z : Row => z.2.1) (List.cons.inj h).1⟩
def goN (us : List Cu) (n : Int) : Option Int := (nextC us n).map (·.n)
def backN (us : List Cu) (n : Int) : Option Int := if n = 0 then none else some (prevN us n)
def spDo (A : Adr) (g : List Cu → Int → Option Int) : Sp := fun vs H Q E => ∃ (r : Addr) (us : List Cu) (n : Int) (last : V) (t : Int), vs = [.ref r, .int t] ∧ RunAt A H r us n last ∧ LastOk last t 1 ∧
  (∀ m, g us n = some m → ∀ H', RunAt A H' r us m (.int t) → Frame r H H' → Q (.int m) H') ∧ (g us n = none → ∀ H', Same H H' → E (.ref A.C_NoCue) none H')
theorem ok_Run_go (T : Txt K mg A) : FnOk P w K mg base (CXE P w) 9 A.f_Run_go A.d_Run_go ["self", "tick"] (spDo A goN) := by
  have G_Run_take := ok_Run_take (P := P) (w := w) (base := base) T
  have G_Run_walked_to := ok_Run_walked_to (P := P) (w := w) (base := base) T
  have G_Walk_go := ok_Walk_go (P := P) (w := w) (base := base) T
  have G_refuse_undone := ok_refuse_undone (P := P) (w := w) (base := base) T
  refine T.F_Run_go.okE sc_Run_go (fun vs H Q E h => ?_) (fun cdv Ar outer s H vs Q E hr h => ?_)
  · obtain ⟨r, us, n, last, t, rfl, hR, hlast, k, ke⟩ := h
    rfl
  · obtain ⟨r, us, n, last, t, rfl, hR, hlast, k, ke⟩ := h
    refine ⟨_, (pss_cons (ps_set (i := 2) sc_Run_go.nd rfl (Or.inl rfl) (pe_meth (pv 0) T.cl_Run T.me_Run_walked_to G_Run_walked_to (hr.mono (by decide)) T.bd_Run_walked_to T.dv_Run_walked_to passE0 (pa_cons (pv 1) pa_nil)))
      (pss_cons (ps_expr (pe_call G_refuse_undone (hr.mono (by decide)) (by rfl) T.m_refuse_undone T.F_refuse_undone.kp T.bb_refuse_undone .nil passE (pa_cons (pe_meth (pv 2) T.cl_Walk T.me_Walk_go G_Walk_go (hr.mono (by decide)) T.bb_Walk_go .nil passE0 (pa_cons (pv 1) pa_nil)) pa_nil)))
      (pss_one (ps_ret (pe_meth (pv 0) T.cl_Run T.me_Run_take G_Run_take (hr.mono (by decide)) T.bb_Run_take .nil passE0 (pa_cons (pv 1) (pa_cons (pv 2) pa_nil))))))), ?_⟩
    obtain ⟨dr, x, dx, d, Lc0, Lt0, cs0, e1, e2, e3, e4, e5, e6⟩ := hR.ex
    refine seq_cut (fun σ' H' => ∃ y Lc Lt cs, σ' = [some (.ref r), some (.int t), some (.ref y)] ∧ WalkAt A H H' y Lc Lt cs us (plainW n) []) (fun N hN => ?_) ?_
    · exact ⟨_, rfl, r, dr, _, rfl, e1, rfl, _, rfl, r, us, n, last, t, 1, rfl, hR, hlast, ⟨by decide, by decide⟩, fun y Lc Lt cs H' hW => hN _ _ ⟨y, Lc, Lt, cs, rfl, hW⟩⟩
    rintro σ' H1 ⟨y, Lc, Lt, cs, rfl, hW⟩
    obtain ⟨dy, hy⟩ := hW.ob
    unfold goN at k ke
    cases e : nextC us n with
    | none =>
      rw [e] at ke
      refine seq_cut (fun _ _ => False) (fun N hN => ?_) (fun _ _ z => z.elim)
      refine ⟨_, rfl, y, dy, _, rfl, hy, rfl, _, rfl, H, y, Lc, Lt, cs, us, plainW n, [], t, rfl, hW, by decide, fun H2 ts1 _ hW2 => ?_⟩
      rw [show nextC us (plainW n).num = none from e]
      exact ⟨_, rfl, (fun z => by cases z), fun _ => ke rfl H2 hW2.sm⟩
    | some u =>
      rw [e] at k
      obtain ⟨hu, _⟩ := next_mem e
      refine seq_cut (fun σ' H' => ∃ q, σ' = [some (.ref r), some (.int t), some (.ref y)] ∧ WalkAt A H H' y Lc Lt cs us (plainW u.n) [q] ∧ q.n = u.n) (fun N hN => ?_) ?_
      · refine ⟨_, rfl, y, dy, _, rfl, hy, rfl, _, rfl, H, y, Lc, Lt, cs, us, plainW n, [], t, rfl, hW, by decide, fun H2 ts1 hts hW2 => ?_⟩
        rw [show nextC us (plainW n).num = some u from e] at hts hW2 ⊢
        obtain ⟨q, rfl, hq⟩ := one_row hts
        rw [show (gotoF (plainW n) t (some u)).1 = plainW u.n from gone_plain n t u (hR.fo u hu).1] at hW2
        exact ⟨_, rfl, (fun _ => hN _ _ ⟨q, rfl, hW2, hq⟩), fun z => by cases z⟩
      rintro σ' H2 ⟨q, rfl, hW2, hq⟩
      have u1 := (hR.fo u hu).2
      exact ⟨_, rfl, r, dr, _, rfl, hW2.sm _ _ e1, rfl, _, rfl, _, rfl, H, r, y, Lc, Lt, cs, us, us, u.n, n, t, last, [q], rfl, hR, hW2, Nat.le_refl 1, (fun q' h => by rw [List.mem_singleton] at h; subst h; omega), hR.fo, fun H' hR' fr => k u.n rfl H' hR' fr⟩
theorem ok_Run_back (T : Txt K mg A) : FnOk P w K mg base (CXE P w) 9 A.f_Run_back A.d_Run_back ["self", "tick"] (spDo A backN) := by
  have G_Run_take := ok_Run_take (P := P) (w := w) (base := base) T
  have G_Run_walked_to := ok_Run_walked_to (P := P) (w := w) (base := base) T
  have G_Walk_back := ok_Walk_back (P := P) (w := w) (base := base) T
  have G_refuse_undone := ok_refuse_undone (P := P) (w := w) (base := base) T
  refine T.F_Run_back.okE sc_Run_back (fun vs H Q E h => ?_) (fun cdv Ar outer s H vs Q E hr h => ?_)
  · obtain ⟨r, us, n, last, t, rfl, hR, hlast, k, ke⟩ := h
    rfl
  · obtain ⟨r, us, n, last, t, rfl, hR, hlast, k, ke⟩ := h
    refine ⟨_, (pss_cons (ps_set (i := 2) sc_Run_back.nd rfl (Or.inl rfl) (pe_meth (pv 0) T.cl_Run T.me_Run_walked_to G_Run_walked_to (hr.mono (by decide)) T.bd_Run_walked_to T.dv_Run_walked_to passE0 (pa_cons (pv 1) pa_nil)))
      (pss_cons (ps_expr (pe_call G_refuse_undone (hr.mono (by decide)) (by rfl) T.m_refuse_undone T.F_refuse_undone.kp T.bb_refuse_undone .nil passE (pa_cons (pe_meth (pv 2) T.cl_Walk T.me_Walk_back G_Walk_back (hr.mono (by decide)) T.bb_Walk_back .nil passE0 (pa_cons (pv 1) pa_nil)) pa_nil)))
      (pss_one (ps_ret (pe_meth (pv 0) T.cl_Run T.me_Run_take G_Run_take (hr.mono (by decide)) T.bb_Run_take .nil passE0 (pa_cons (pv 1) (pa_cons (pv 2) pa_nil))))))), ?_⟩
    obtain ⟨dr, x, dx, d, Lc0, Lt0, cs0, e1, e2, e3, e4, e5, e6⟩ := hR.ex
    refine seq_cut (fun σ' H' => ∃ y Lc Lt cs, σ' = [some (.ref r), some (.int t), some (.ref y)] ∧ WalkAt A H H' y Lc Lt cs us (plainW n) []) (fun N hN => ?_) ?_
    · exact ⟨_, rfl, r, dr, _, rfl, e1, rfl, _, rfl, r, us, n, last, t, 1, rfl, hR, hlast, ⟨by decide, by decide⟩, fun y Lc Lt cs H' hW => hN _ _ ⟨y, Lc, Lt, cs, rfl, hW⟩⟩
    rintro σ' H1 ⟨y, Lc, Lt, cs, rfl, hW⟩
    obtain ⟨dy, hy⟩ := hW.ob
    unfold backN at k ke
    by_cases e : n = 0
    · rw [if_pos e] at ke
      refine seq_cut (fun _ _ => False) (fun N hN => ?_) (fun _ _ z => z.elim)
      refine ⟨_, rfl, y, dy, _, rfl, hy, rfl, _, rfl, H, y, Lc, Lt, cs, us, plainW n, [], t, rfl, hW, by decide, fun H2 ts1 _ hW2 => ?_⟩
      rw [show backF us (plainW n) t = (plainW n, [], false) from if_pos e]
      exact ⟨_, rfl, (fun z => by cases z), fun _ => ke rfl H2 hW2.sm⟩
    · rw [if_neg e] at k
      refine seq_cut (fun σ' H' => ∃ q, σ' = [some (.ref r), some (.int t), some (.ref y)] ∧ WalkAt A H H' y Lc Lt cs us (plainW (prevN us n)) [q] ∧ q.n = prevN us n) (fun N hN => ?_) ?_
      · refine ⟨_, rfl, y, dy, _, rfl, hy, rfl, _, rfl, H, y, Lc, Lt, cs, us, plainW n, [], t, rfl, hW, by decide, fun H2 ts1 hts hW2 => ?_⟩
        rw [show backF us (plainW n) t = ({ onW (plainW n) t with num := prevN us n, due := none }, [(clk (plainW n) t 1, prevN us n, ("back" : Str))], true) from if_neg e] at hts hW2 ⊢
        obtain ⟨q, rfl, hq⟩ := one_row hts
        rw [on_plain] at hW2
        exact ⟨_, rfl, (fun _ => hN _ _ ⟨q, rfl, hW2, hq⟩), fun z => by cases z⟩
      rintro σ' H2 ⟨q, rfl, hW2, hq⟩
      have u1 := prev_ge (fo_ok hR.fo) n
      exact ⟨_, rfl, r, dr, _, rfl, hW2.sm _ _ e1, rfl, _, rfl, _, rfl, H, r, y, Lc, Lt, cs, us, us, prevN us n, n, t, last, [q], rfl, hR, hW2, Nat.le_refl 1, (fun q' h => by rw [List.mem_singleton] at h; subst h; omega), hR.fo, fun H' hR' fr => k _ rfl H' hR' fr⟩
def spGotoR (A : Adr) : Sp := fun vs H Q E => ∃ (r : Addr) (us : List Cu) (n : Int) (last : V) (t m : Int), vs = [.ref r, .int t, .int m] ∧ RunAt A H r us n last ∧ LastOk last t 1 ∧
  ((hasC us m).isSome = true → ∀ H', RunAt A H' r us m (.int t) → Frame r H H' → Q (.int m) H') ∧ (hasC us m = none → ∀ H', Same H H' → E (.ref A.C_NoCue) none H')
theorem ok_Run_goto (T : Txt K mg A) : FnOk P w K mg base (CXE P w) 9 A.f_Run_goto A.d_Run_goto ["self", "tick", "number"] (spGotoR A) := by
  have G_Run_take := ok_Run_take (P := P) (w := w) (base := base) T
  have G_Run_walked_to := ok_Run_walked_to (P := P) (w := w) (base := base) T
  have G_Walk_goto := ok_Walk_goto (P := P) (w := w) (base := base) T
  have G_refuse_undone := ok_refuse_undone (P := P) (w := w) (base := base) T
  refine T.F_Run_goto.okE sc_Run_goto (fun vs H Q E h => ?_) (fun cdv Ar outer s H vs Q E hr h => ?_)
  · obtain ⟨r, us, n, last, t, m, rfl, hR, hlast, k, ke⟩ := h
    rfl
  · obtain ⟨r, us, n, last, t, m, rfl, hR, hlast, k, ke⟩ := h
    refine ⟨_, (pss_cons (ps_set (i := 3) sc_Run_goto.nd rfl (Or.inl rfl) (pe_meth (pv 0) T.cl_Run T.me_Run_walked_to G_Run_walked_to (hr.mono (by decide)) T.bd_Run_walked_to T.dv_Run_walked_to passE0 (pa_cons (pv 1) pa_nil)))
      (pss_cons (ps_expr (pe_call G_refuse_undone (hr.mono (by decide)) (by rfl) T.m_refuse_undone T.F_refuse_undone.kp T.bb_refuse_undone .nil passE (pa_cons (pe_meth (pv 3) T.cl_Walk T.me_Walk_goto G_Walk_goto (hr.mono (by decide)) T.bb_Walk_goto .nil passE0 (pa_cons (pv 1) (pa_cons (pv 2) pa_nil))) pa_nil)))
      (pss_one (ps_ret (pe_meth (pv 0) T.cl_Run T.me_Run_take G_Run_take (hr.mono (by decide)) T.bb_Run_take .nil passE0 (pa_cons (pv 1) (pa_cons (pv 3) pa_nil))))))), ?_⟩
    obtain ⟨dr, x, dx, d, Lc0, Lt0, cs0, e1, e2, e3, e4, e5, e6⟩ := hR.ex
    refine seq_cut (fun σ' H' => ∃ y Lc Lt cs, σ' = [some (.ref r), some (.int t), some (.int m), some (.ref y)] ∧ WalkAt A H H' y Lc Lt cs us (plainW n) []) (fun N hN => ?_) ?_
    · exact ⟨_, rfl, r, dr, _, rfl, e1, rfl, _, rfl, r, us, n, last, t, 1, rfl, hR, hlast, ⟨by decide, by decide⟩, fun y Lc Lt cs H' hW => hN _ _ ⟨y, Lc, Lt, cs, rfl, hW⟩⟩
    rintro σ' H1 ⟨y, Lc, Lt, cs, rfl, hW⟩
    obtain ⟨dy, hy⟩ := hW.ob
    cases e : hasC us m with
    | none =>
      refine seq_cut (fun _ _ => False) (fun N hN => ?_) (fun _ _ z => z.elim)
      refine ⟨_, rfl, y, dy, _, rfl, hy, rfl, _, rfl, _, rfl, H, y, Lc, Lt, cs, us, plainW n, [], t, m, rfl, hW, by decide, fun H2 ts1 _ hW2 => ?_⟩
      rw [e]
      exact ⟨_, rfl, (fun z => by cases z), fun _ => ke e H2 hW2.sm⟩
    | some u =>
      rw [e] at k
      obtain ⟨hu, um⟩ := has_mem e
      refine seq_cut (fun σ' H' => ∃ q, σ' = [some (.ref r), some (.int t), some (.int m), some (.ref y)] ∧ WalkAt A H H' y Lc Lt cs us (plainW m) [q] ∧ q.n = m) (fun N hN => ?_) ?_
      · refine ⟨_, rfl, y, dy, _, rfl, hy, rfl, _, rfl, _, rfl, H, y, Lc, Lt, cs, us, plainW n, [], t, m, rfl, hW, by decide, fun H2 ts1 hts hW2 => ?_⟩
        rw [e] at hts hW2 ⊢
        obtain ⟨q, rfl, hq⟩ := one_row hts
        rw [show (gotoF (plainW n) t (some u)).1 = plainW u.n from gone_plain n t u (hR.fo u hu).1, um] at hW2
        exact ⟨_, rfl, (fun _ => hN _ _ ⟨q, rfl, hW2, by omega⟩), fun z => by cases z⟩
      rintro σ' H2 ⟨q, rfl, hW2, hq⟩
      have u1 := (hR.fo u hu).2
      exact ⟨_, rfl, r, dr, _, rfl, hW2.sm _ _ e1, rfl, _, rfl, _, rfl, H, r, y, Lc, Lt, cs, us, us, m, n, t, last, [q], rfl, hR, hW2, Nat.le_refl 1, (fun q' h => by rw [List.mem_singleton] at h; subst h; omega), hR.fo, fun H' hR' fr => k rfl H' hR' fr⟩
def spChangeR (A : Adr) : Sp := fun vs H Q _ => ∃ (r l : Addr) (us us' : List Cu) (cs' : List Addr) (n : Int) (last : V) (t : Int), vs = [.ref r, .int t, .ref l] ∧ RunAt A H r us n last ∧ LastOk last t 1 ∧ H l = some (.lst (cs'.map V.ref)) ∧ cs'.length ≤ 900 ∧ Cues0 A H cs' us' ∧ Rising us' ∧ (∀ u ∈ us', u.fo = .non ∧ 1 ≤ u.n) ∧
  ∀ H', RunAt A H' r us' n (.int t) → Frame r H H' → Q (.int n) H'
theorem ok_Run_change (T : Txt K mg A) : FnOk P w K mg base (CXE P w) 9 A.f_Run_change A.d_Run_change ["self", "tick", "cues"] (spChangeR A) := by
  have G_Run_take := ok_Run_take (P := P) (w := w) (base := base) T
  have G_Run_walked_to := ok_Run_walked_to (P := P) (w := w) (base := base) T
  have G_Walk_change := ok_Walk_change (P := P) (w := w) (base := base) T
  refine T.F_Run_change.okN sc_Run_change (fun vs H Q E h => ?_) (fun cdv Ar outer s H vs Q E hr h => ?_)
  · obtain ⟨r, l, us, us', cs', n, last, t, rfl, hR, hlast, hl, hz, hc, hri, hfo, k⟩ := h
    rfl
  · obtain ⟨r, l, us, us', cs', n, last, t, rfl, hR, hlast, hl, hz, hc, hri, hfo, k⟩ := h
    refine ⟨_, (pss_cons (ps_set (i := 3) sc_Run_change.nd rfl (Or.inl rfl) (pe_meth (pv 0) T.cl_Run T.me_Run_walked_to G_Run_walked_to (hr.mono (by decide)) T.bd_Run_walked_to T.dv_Run_walked_to passE0 (pa_cons (pv 1) pa_nil)))
      (pss_cons (ps_expr (pe_meth (pv 3) T.cl_Walk T.me_Walk_change G_Walk_change (hr.mono (by decide)) T.bb_Walk_change .nil passE0 (pa_cons (pv 1) (pa_cons (pv 2) pa_nil))))
      (pss_one (ps_ret (pe_meth (pv 0) T.cl_Run T.me_Run_take G_Run_take (hr.mono (by decide)) T.bb_Run_take .nil passE0 (pa_cons (pv 1) (pa_cons (pv 3) pa_nil))))))), ?_⟩
    obtain ⟨dr, x, dx, d, Lc0, Lt0, cs0, e1, e2, e3, e4, e5, e6⟩ := hR.ex
    refine seq_cut (fun σ' H' => ∃ y Lc Lt cs, σ' = [some (.ref r), some (.int t), some (.ref l), some (.ref y)] ∧ WalkAt A H H' y Lc Lt cs us (plainW n) []) (fun N hN => ?_) ?_
    · exact ⟨_, rfl, r, dr, _, rfl, e1, rfl, _, rfl, r, us, n, last, t, 1, rfl, hR, hlast, ⟨by decide, by decide⟩, fun y Lc Lt cs H' hW => hN _ _ ⟨y, Lc, Lt, cs, rfl, hW⟩⟩
    rintro σ' H1 ⟨y, Lc, Lt, cs, rfl, hW⟩
    obtain ⟨dy, hy⟩ := hW.ob
    refine seq_cut (fun σ' H' => ∃ q Lc', σ' = [some (.ref r), some (.int t), some (.ref l), some (.ref y)] ∧ WalkAt A H H' y Lc' Lt cs' us' (plainW n) [q] ∧ q.n = n) (fun N hN => ?_) ?_
    · exact ⟨_, rfl, y, dy, _, rfl, hy, rfl, _, rfl, _, rfl, H, y, Lc, Lt, l, cs, cs', us, us', plainW n, t, rfl, hW, hl, hz, hc, hri, fo_ok hfo, fun Lc' q H2 hq hW2 => hN _ _ ⟨q, Lc', rfl, hW2, hq⟩⟩
    rintro σ' H2 ⟨q, Lc', rfl, hW2, hq⟩
    have n0 := hR.nn
    exact ⟨_, rfl, r, dr, _, rfl, hW2.sm _ _ e1, rfl, _, rfl, _, rfl, H, r, y, Lc', Lt, cs', us', us, n, n, t, last, [q], rfl, hR, hW2, Nat.le_refl 1, (fun q' h => by rw [List.mem_singleton] at h; subst h; omega), hfo, fun H' hR' fr => k H' hR' fr⟩
def spNumAt (A : Adr) : Sp := fun vs H Q _ => ∃ (r : Addr) (us : List Cu) (n : Int) (last : V) (top b : Int), vs = [.ref r, .int top, .int b] ∧ RunAt A H r us n last ∧ LastOk last top b ∧ Sm64 b ∧ ∀ H', Same H H' → Q (.int n) H'
theorem ok_Run_number_at (T : Txt K mg A) : FnOk P w K mg base (CXE P w) 7 A.f_Run_number_at A.d_Run_number_at ["self", "top", "bottom"] (spNumAt A) := by
  have G_Run_walked_to := ok_Run_walked_to (P := P) (w := w) (base := base) T
  refine T.F_Run_number_at.okN sc_Run_number_at (fun vs H Q E h => ?_) (fun cdv Ar outer s H vs Q E hr h => ?_)
  · obtain ⟨r, us, n, last, top, b, rfl, hR, hlast, hb, k⟩ := h
    rfl
  · obtain ⟨r, us, n, last, top, b, rfl, hR, hlast, hb, k⟩ := h
    refine ⟨_, (pss_one (ps_ret (pe_fldK K (pe_meth (pv 0) T.cl_Run T.me_Run_walked_to G_Run_walked_to (hr.mono (by decide)) T.bb_Run_walked_to .nil passE0 (pa_cons (pv 1) (pa_cons (pv 2) pa_nil)))))), ?_⟩
    obtain ⟨dr, x, dx, d, Lc0, Lt0, cs0, e1, e2, e3, e4, e5, e6⟩ := hR.ex
    refine ⟨_, rfl, r, dr, _, rfl, e1, rfl, _, rfl, _, rfl, r, us, n, last, top, b, rfl, hR, hlast, hb, fun y Lc Lt cs H' hW => ?_⟩
    obtain ⟨dy, hy⟩ := hW.ob
    exact ⟨y, A.C_Walk, dy, _, _, rfl, hy, T.cl_Walk, T.na_Walk_number, rfl, k H' hW.sm⟩
def spCell (K : PySem.W.Frag) : Sp := fun vs H Q _ => ∃ (a : Addr) (ns : List Int) (i : Int), vs = [.ref a, .int i] ∧ SqL K H a (ns.map V.int) ∧ 0 ≤ i ∧ ∀ v, Q (.int v) H
theorem ok_law_cell_at (T : Txt K mg A) : FnOk P w K mg base (CXE P w) 1 A.f_law_cell_at A.d_law_cell_at ["_law_script", "_law_k"] (spCell K) := by
  refine T.F_law_cell_at.okN sc_law_cell_at (fun vs H Q E h => ?_) (fun cdv Ar outer s H vs Q E hr h => ?_)
  · obtain ⟨a, ns, i, rfl, hS, hi, k⟩ := h
    rfl
  · obtain ⟨a, ns, i, rfl, hS, hi, k⟩ := h
    refine ⟨_, (pss_cons (ps_if (pt_cmpR op_lt (pv 1) (pe_callB (call_lenK K) (by rfl) T.b_len PySem.boot_len (pa_cons (pv 0) pa_nil)) (nomark _)) (pss_one (ps_ret (pe_ix (ix_listK K) (pv 0) (pv 1) (fun _ _ => rfl)))) pss_nil)
      (pss_one (ps_ret pe_int))), ?_⟩
    refine ⟨_, rfl, _, rfl, a, _, rfl, .inl hS, _, _, rfl, rfl, _, rfl, ?_⟩
    refine ite2 (fun c => ?_) (fun c => ?_)
    · have c := of_decide_eq_true c
      rw [List.length_map] at c
      obtain ⟨v, hv⟩ : ∃ v, ns[i.toNat]? = some v := ⟨_, List.getElem?_eq_getElem (by omega)⟩
      refine ⟨_, rfl, _, rfl, a, _, _, _, rfl, rfl, hS, ?_, k v⟩
      have := atI_nat (xs := ns.map V.int) (j := i.toNat) (v := .int v) (by rw [List.getElem?_map, hv]; rfl)
      rwa [Int.toNat_of_nonneg hi] at this
    · exact k 0
def spWhL : Sp := fun vs H Q _ => ∃ n : Int, vs = [.int n] ∧ Q (.bl true) H
theorem ok_law_whole (T : Txt K mg A) : FnOk P w K mg base (CXE P w) 1 A.f_law_whole A.d_law_whole ["_law_found"] (spWhL) := by
  refine T.F_law_whole.okN sc_law_whole (fun vs H Q E h => ?_) (fun cdv Ar outer s H vs Q E hr h => ?_)
  · obtain ⟨n, rfl, k⟩ := h
    rfl
  · obtain ⟨n, rfl, k⟩ := h
    refine ⟨_, (pss_one (ps_ret (pe_and (pe_callB (call_isiT K) (by rfl) T.b_isinstance boot_isinstance (pa_cons (pv 0) (pa_cons (pe_ty (by rfl) T.b_int boot_int) pa_nil))) (pe_one (pe_not (pe_callB (call_isiT K) (by rfl) T.b_isinstance boot_isinstance (pa_cons (pv 0) (pa_cons (pe_ty (by rfl) T.b_bool boot_bool) pa_nil)))))))), ?_⟩
    refine ⟨_, rfl, _, _, _, _, rfl, .int n, kit_sub (.inr (.inr (.inl rfl))) (.inl rfl), _, rfl, iteT ?_⟩
    exact ⟨_, rfl, _, _, _, _, rfl, .int n, kit_sub (.inr (.inr (.inl rfl))) (.inr (.inl rfl)), _, rfl, k⟩
def spDraw : Sp := fun vs H Q _ => ∃ c p : Int, vs = [.int c, .int p] ∧ 0 ≤ p ∧ p ≤ 400 ∧ ∀ v, 0 ≤ v → v < 2147483648 → Q (.int v) H
theorem pp {p : Int} (h : 0 ≤ p) (h' : p ≤ 400) : -18446744073709551616 < 48271 + 7919 * p * p ∧ 48271 + 7919 * p * p < 18446744073709551616 := by
  have h1 : 0 ≤ 7919 * p * p := Int.mul_nonneg (by omega) h
  have h2 : 7919 * p * p ≤ 3167600 * 400 := Int.mul_le_mul (by omega) h' h (by omega)
  omega
theorem md {x m : Int} (h : 0 < m) (h' : m < 18446744073709551616) : -18446744073709551616 < x % m ∧ x % m < 18446744073709551616 := by
  have h1 := Int.emod_nonneg x (Int.ne_of_gt h)
  have h2 := Int.emod_lt_of_pos x h
  omega
theorem ok_law_draw (T : Txt K mg A) : FnOk P w K mg base (CXE P w) 1 A.f_law_draw A.d_law_draw ["_law_cell", "_law_place"] (spDraw) := by
  refine T.F_law_draw.okN sc_law_draw (fun vs H Q E h => ?_) (fun cdv Ar outer s H vs Q E hr h => ?_)
  · obtain ⟨c, p, rfl, hp, hp', k⟩ := h
    rfl
  · obtain ⟨c, p, rfl, hp, hp', k⟩ := h
    refine ⟨_, (pss_cons (ps_set (i := 2) sc_law_draw.nd rfl (Or.inl rfl) (pe_op op_shr (pv 0) (pe_op op_add pe_int (pe_op op_mul pe_int (pe_op op_mod (pv 1) pe_int)))))
      (pss_cons (ps_if (PW.pt (pw_and (pt_cmpR op_eq (pe_op op_mod (pv 0) pe_int) pe_int (nomark _)) (pw_and1 (pt_cmpR op_ne (pv 2) pe_int (nomark _))))) (pss_one (ps_ret (pe_op op_mod (pv 2) pe_int))) pss_nil)
      (pss_cons (ps_set (i := 3) sc_law_draw.nd rfl (Or.inl rfl) (pe_op op_mod (pe_op op_mul (pe_op op_add (pe_op op_mod (pe_op op_fdivL (pv 0) pe_int) (pe_op op_powS pe_int pe_int)) pe_int) (pe_op op_add pe_int (pe_op op_mul (pe_op op_mul pe_int (pv 1)) (pv 1)))) pe_int))
      (pss_one (ps_ret (pe_op op_mod (pe_op op_mul (pv 3) (pv 3)) pe_int)))))), ?_⟩
    refine seq_cut2 (fun σ' H' => ∃ o : Int, σ' = [some (.int c), some (.int p), some (.int o), none] ∧ H' = H) (fun N hN => ?_) ?_
    · simp only [tSeq, tIfS, tAsg, gName, tRet, tRetN, tNext, tDrop, tTest, tB, tOp, tUn, rI, rI0, rU, rEq, rNe, scal, tVar, tC, tCB, tCons, tNil, tCall, tAnd, tOr, tNot, tAndV, tOrV, tNotV, tLstS, tTupS, tMenu, intsOf, tyName, L2.start, CMul, CDivL, CPowS, List.map_cons, List.map_nil, List.length_cons, List.length_nil, List.cons_append, List.nil_append, List.append_nil, List.getElem?_cons_zero, List.getElem?_cons_succ, List.set_cons_zero, List.set_cons_succ, Nat.reduceAdd, Nat.reduceSub, Nat.zero_add, List.reduceReplicate, Option.some.injEq, exists_eq_left', exists_eq_left, exists_and_left, and_assoc, V.int.injEq, V.bl.injEq, V.ref.injEq, V.ty.injEq, List.cons.injEq, and_true, true_and, decide_eq_true_eq, reduceCtorEq, false_and, and_false, exists_false, Bool.false_eq_true, if_true, if_false, exists_const, true_or, or_true, false_or, or_false, Bool.not_eq_true', decide_eq_false_iff_not, ite_not, Bool.not_true, Bool.not_false, Nat.reduceLeDiff, Int.reduceLT, Int.reduceLE, Int.reduceNeg, Int.reducePow, Int.reduceToNat, Int.reduceAdd, Int.reduceMul, Int.reduceSub, Nat.reducePow, Nat.reduceLT, Int.natCast_add, Int.cast_ofNat_Int, decide_true, decide_false, Int.natCast_zero, Int.zero_add, String.reduceEq]
      refine ⟨by omega, ?_⟩
      have k1 : ∀ x : Int, Q (V.int (x % 2147483648)) H := fun x => k _ (Int.emod_nonneg x (by omega)) (Int.emod_lt_of_pos x (by omega))
      split
      · split
        · exact hN _ _ ⟨_, rfl, rfl⟩
        · exact k1 _
      · exact hN _ _ ⟨_, rfl, rfl⟩
    · rintro σ' H' ⟨o, rfl, rfl⟩
      simp only [tSeq, tIfS, tAsg, gName, tRet, tRetN, tNext, tDrop, tTest, tB, tOp, tUn, rI, rI0, rU, rEq, rNe, scal, tVar, tC, tCB, tCons, tNil, tCall, tAnd, tOr, tNot, tAndV, tOrV, tNotV, tLstS, tTupS, tMenu, intsOf, tyName, L2.start, CMul, CDivL, CPowS, List.map_cons, List.map_nil, List.length_cons, List.length_nil, List.cons_append, List.nil_append, List.append_nil, List.getElem?_cons_zero, List.getElem?_cons_succ, List.set_cons_zero, List.set_cons_succ, Nat.reduceAdd, Nat.reduceSub, Nat.zero_add, List.reduceReplicate, Option.some.injEq, exists_eq_left', exists_eq_left, exists_and_left, and_assoc, V.int.injEq, V.bl.injEq, V.ref.injEq, V.ty.injEq, List.cons.injEq, and_true, true_and, decide_eq_true_eq, reduceCtorEq, false_and, and_false, exists_false, Bool.false_eq_true, if_true, if_false, exists_const, true_or, or_true, false_or, or_false, Bool.not_eq_true', decide_eq_false_iff_not, ite_not, Bool.not_true, Bool.not_false, Nat.reduceLeDiff, Int.reduceLT, Int.reduceLE, Int.reduceNeg, Int.reducePow, Int.reduceToNat, Int.reduceAdd, Int.reduceMul, Int.reduceSub, Nat.reducePow, Nat.reduceLT, Int.natCast_add, Int.cast_ofNat_Int, decide_true, decide_false, Int.natCast_zero, Int.zero_add, String.reduceEq]
      refine ⟨.inr ⟨by omega, by omega⟩, .inr (pp hp hp'), .inl (md (by omega) (by omega)), ?_⟩
      exact k _ (Int.emod_nonneg _ (by omega)) (Int.lt_trans (Int.emod_lt_of_pos _ (by omega)) (by omega))
def spRest : Sp := fun vs H Q _ => ∃ c : Int, vs = [.int c] ∧ ∀ v, Q (.int v) H
theorem ok_law_rest (T : Txt K mg A) : FnOk P w K mg base (CXE P w) 2 A.f_law_rest A.d_law_rest ["_law_cell"] (spRest) := by
  have G_law_draw := ok_law_draw (P := P) (w := w) (base := base) T
  refine T.F_law_rest.okN sc_law_rest (fun vs H Q E h => ?_) (fun cdv Ar outer s H vs Q E hr h => ?_)
  · obtain ⟨c, rfl, k⟩ := h
    rfl
  · obtain ⟨c, rfl, k⟩ := h
    refine ⟨_, (pss_cons (ps_if (PW.pt (pw_and (pt_cmpR op_eq (pe_op op_mod (pv 0) pe_int) pe_int (nomark _)) (pw_and1 (pt_cmpR op_ne (pe_op op_shr (pv 0) pe_int) pe_int (nomark _))))) (pss_one (ps_ret (pe_op op_add (pe_op op_mul (pe_op op_shr (pv 0) pe_int) pe_int) pe_int))) pss_nil)
      (pss_one (ps_ret (pe_op op_mul pe_int (pe_call G_law_draw (hr.mono (by decide)) (by rfl) T.m_law_draw T.F_law_draw.kp T.bb_law_draw .nil passE0 (pa_cons (pv 0) (pa_cons pe_int pa_nil))))))), ?_⟩
    refine seq_cut (fun σ' H' => σ' = [some (.int c)] ∧ H' = H) (fun N hN => ?_) ?_
    · refine ⟨_, rfl, _, _, rfl, rfl, (by show (0 : Int) < 2; decide), rfl, _, rfl, ?_⟩
      refine ite2 (fun _ => ?_) (fun _ => iteF (hN _ _ ⟨rfl, rfl⟩))
      refine ⟨_, rfl, _, _, rfl, rfl, (by show (0 : Int) ≤ 1986; decide), rfl, _, rfl, ?_⟩
      refine ite2 (fun _ => ?_) (fun _ => hN _ _ ⟨rfl, rfl⟩)
      exact ⟨_, rfl, _, _, rfl, rfl, (by show (0 : Int) ≤ 1986; decide), _, _, rfl, rfl, .inr ⟨by decide, by decide⟩, _, _, rfl, rfl, k _⟩
    rintro σ' H1 ⟨rfl, rfl⟩
    exact ⟨_, rfl, c, 99, rfl, by decide, by decide, fun v _ _ => ⟨_, _, rfl, rfl, .inl ⟨by decide, by decide⟩, k _⟩⟩
structure NumsOk (ms : List Int) : Prop where
  ri : ms.Pairwise (· < ·)
  bd : ∀ m ∈ ms, 1 ≤ m ∧ m ≤ 1000000000
  sz : ms.length ≤ 6
def spNumbers : Sp := fun vs H Q _ => ∃ c w : Int, vs = [.int c, .int w] ∧ 0 ≤ w ∧ w ≤ 1 ∧ ∀ L ms H', H L = none → H' L = some (.lst (ms.map V.int)) → NumsOk ms → Same H H' → Q (.ref L) H'
theorem ok_law_numbers (T : Txt K mg A) : FnOk P w K mg base (CXE P w) 2 A.f_law_numbers A.d_law_numbers ["_law_cell", "_law_wide"] (spNumbers) := by
  have G_law_draw := ok_law_draw (P := P) (w := w) (base := base) T
  refine T.F_law_numbers.okN sc_law_numbers (fun vs H Q E h => ?_) (fun cdv Ar outer s H vs Q E hr h => ?_)
  · obtain ⟨c, w, rfl, w0, w1, k⟩ := h
    rfl
  · obtain ⟨c, w, rfl, w0, w1, k⟩ := h
    refine ⟨_, (pss_cons (ps_set (i := 2) sc_law_numbers.nd rfl (Or.inl rfl) (pe_lstS pa_nil))
      (pss_cons (ps_set (i := 3) sc_law_numbers.nd rfl (Or.inl rfl) pe_int)
      (pss_cons (ps_for PassesOwn.never rfl (pi_range1 (by rfl) T.b_range (pa_cons (pe_op op_mod (pe_call G_law_draw (hr.mono (by decide)) (by rfl) T.m_law_draw T.F_law_draw.kp T.bb_law_draw .nil passE0 (pa_cons (pv 0) (pa_cons pe_int pa_nil))) pe_int) pa_nil)) (pg_name (i := 4) sc_law_numbers.nd rfl (Or.inl rfl)) (pss_cons (ps_set (i := 3) sc_law_numbers.nd rfl (Or.inl rfl) (pe_op op_add (pe_op op_add (pv 3) pe_int) (pe_op op_mod (pe_call G_law_draw (hr.mono (by decide)) (by rfl) T.m_law_draw T.F_law_draw.kp T.bb_law_draw .nil passE0 (pa_cons (pv 0) (pa_cons (pe_op op_add pe_int (pv 4)) pa_nil))) (pe_menu (pa_cons pe_int (pa_cons (pe_op op_powS pe_int pe_int) pa_nil)) (pv 1) (fun _ _ => rfl)))))
      (pss_one (ps_expr (pe_bmK K PySem.F.plainAttrs_list PySem.F.slot_list_append PySem.F.type_list_append mt_append (pv 2) (pa_cons (pv 3) pa_nil))))))
      (pss_one (ps_ret (pv 2)))))), ?_⟩
    refine seq_cut2 (fun σ' H' => ∃ L, σ' = [some (.int c), some (.int w), some (.ref L), some (.int 0), none] ∧ H L = none ∧ H' L = some (.lst []) ∧ Same H H') (fun N hN => ?_) ?_
    · exact ⟨by decide, fun L hL => hN _ _ ⟨L, rfl, hL, upd_same, Same.new hL⟩⟩
    rintro σ' H1 ⟨L, rfl, nL, hL, s1⟩
    refine seq_cut (fun σ' H' => ∃ ms v1 v2, σ' = [some (.int c), some (.int w), some (.ref L), v1, v2] ∧ H' L = some (.lst (ms.map V.int)) ∧ NumsOk ms ∧ Same H H') (fun N hN => ?_) ?_
    · refine ⟨_, rfl, c, 1, rfl, by decide, by decide, fun v v0 v1 => ⟨_, _, rfl, rfl, (by show (0 : Int) < 7; decide), _, rfl, by omega, by omega, ?_⟩⟩
      have h7 := Int.emod_lt_of_pos v (show (0 : Int) < 7 by decide)
      refine for_range (n := (v % 7).toNat) (fun i σ H' => ∃ (ms : List Int) (last : Int) (z : Option V), σ = [some (.int c), some (.int w), some (.ref L), some (.int last), z] ∧ H' L = some (.lst (ms.map V.int)) ∧ ms.Pairwise (· < ·) ∧ (∀ m ∈ ms, 1 ≤ m ∧ m ≤ last) ∧ ms.length = i ∧ 0 ≤ last ∧ last ≤ 100000000 * i ∧ Same H H') ?_ ?_ ?_
      · exact ⟨[], 0, none, rfl, hL, by simp, by simp, rfl, by omega, by omega, s1⟩
      · rintro i σ H2 hi ⟨ms, last, z, rfl, hm, hp, hb, hl, l0, l1, sm⟩
        have mm := menu_all (P := fun z => 0 < z ∧ z ≤ 100000000) (ns := [3, 10 ^ Int.toNat 8]) (k := w) (by simp) (by omega) (by show _ < ((2 : Nat) : Int); omega)
        refine seq_cut (fun σ' H' => ∃ q : Int, σ' = [some (.int c), some (.int w), some (.ref L), some (.int (last + 1 + q)), some (.int (0 + (i : Int)))] ∧ H' = H2 ∧ 0 ≤ q ∧ q < 100000000) (fun N2 hN2 => ?_) ?_
        · refine ⟨_, rfl, _, _, rfl, rfl, _, rfl, _, rfl, _, _, rfl, rfl, c, _, rfl, by omega, by omega, fun v2 v20 v21 => ?_⟩
          refine ⟨_, _, rfl, rfl, ⟨by decide, by decide, by decide, by decide⟩, (by show 2 ≤ 1000; decide), _, rfl, _, _, rfl, rfl, w0, (by show w < ((2 : Nat) : Int); omega), (by show (2 : Int) < 1000; decide), _, _, rfl, rfl, mm.1, _, _, rfl, rfl, hN2 _ _ ⟨_, rfl, rfl, Int.emod_nonneg _ (Int.ne_of_gt mm.1), ?_⟩⟩
          exact Int.lt_of_lt_of_le (Int.emod_lt_of_pos _ mm.1) mm.2
        rintro σ' H3 ⟨q, rfl, rfl, q0, q1⟩
        refine ⟨_, rfl, .inl ⟨rfl, _, SqL.of hm⟩, _, rfl, L, _, _, rfl, rfl, hm, small1000 (by rw [List.length_map]; omega), ?_⟩
        refine ⟨ms ++ [last + 1 + q], last + 1 + q, _, rfl, by rw [upd_same, List.map_append]; rfl, ?_, ?_, by rw [List.length_append, hl]; rfl, by omega, by omega, sm.upd nL⟩
        · refine List.pairwise_append.mpr ⟨hp, by simp, fun a ha b hb' => ?_⟩
          rw [List.mem_singleton] at hb'
          have := (hb a ha).2
          omega
        · intro m hm'
          rcases List.mem_append.mp hm' with h | h
          · have := hb m h; omega
          · rw [List.mem_singleton] at h; omega
      · rintro σ H2 ⟨ms, last, z, rfl, hm, hp, hb, hl, l0, l1, sm⟩
        exact hN _ _ ⟨ms, _, _, rfl, hm, ⟨hp, fun m h => by have := hb m h; omega, by omega⟩, sm⟩
    rintro σ' H2 ⟨ms, v1, v2, rfl, hm, ho, s2⟩
    exact ⟨_, rfl, k L ms H2 nL hm ho s2⟩
def spCues (A : Adr) (K : PySem.W.Frag) : Sp := fun vs H Q _ => ∃ (B : Addr) (ms : List Int), vs = [.ref B] ∧ H B = some (.lst (ms.map V.int)) ∧ NumsOk ms ∧ ∀ C cs H', H' C = some (.lst (cs.map V.ref)) → cs.length ≤ 6 → Cues0 A H' cs (cuesOf ms) → Same H H' → Q (.ref C) H'
theorem ok_law_cues (T : Txt K mg A) : FnOk P w K mg base (CXE P w) 6 A.f_law_cues A.d_law_cues ["_law_numbers_here"] (spCues A K) := by
  have G_Cue_init := ok_Cue_init (P := P) (w := w) (base := base) T
  have G_Part_init := ok_Part_init (P := P) (w := w) (base := base) T
  refine T.F_law_cues.okN sc_law_cues (fun vs H Q E h => ?_) (fun cdv Ar outer s H vs Q E hr h => ?_)
  · obtain ⟨B, ms, rfl, hB, ho, k⟩ := h
    rfl
  · obtain ⟨B, ms, rfl, hB, ho, k⟩ := h
    refine ⟨_, (pss_one (ps_ret (pe_comp ["_law_number"] [none] rfl (pi_listK K (pv 0)) (fun _ _ _ => (pg_name (i := 0) ndc_law_cues_0 rfl (Or.inl rfl))) (fun _ _ _ => (pe_make T.M_Cue G_Cue_init (hr.mono (by decide)) (by rfl) T.c_Cue T.bd_Cue_init T.dv_Cue_init passE0 (pa_cons (pv 0) (pa_cons (pe_lstS (pa_cons (pe_make T.M_Part G_Part_init (hr.mono (by decide)) (by rfl) T.c_Part T.bd_Part_init T.dv_Part_init passE0 (pa_cons pe_dnewT (pa_cons pe_dnewT pa_nil))) pa_nil)) pa_nil))))))), ?_⟩
    have hul : (cuesOf ms).length = ms.length := List.length_map _
    have hsz := ho.sz
    refine ⟨_, rfl, B, rfl, ⟨_, SqL.of hB⟩, fun D hD => ?_⟩
    refine comp_ob (us := cuesOf ms) (fun u v H => ∃ c, v = V.ref c ∧ Cue0 A H c u.n u.st u.fo) (fun σ => ∃ z, σ = [z]) (fun H H' u v s ⟨c, e, h⟩ => ⟨c, e, h.keep s⟩) (SqL.of hB) hD (by rw [List.length_map]; omega) (by rw [List.length_map, hul]) ⟨none, rfl⟩ (fun i v u σ' G N2 hv hu ho' sm ⟨ys, hy⟩ q => ?_) fun ys G sm hDl hp => ?_
    · obtain ⟨z, rfl⟩ := ho'
      rw [List.getElem?_map] at hv
      unfold cuesOf at hu
      rw [List.getElem?_map] at hu
      cases hmi : ms[i]? with
      | none => rw [hmi] at hv; cases hv
      | some m =>
        rw [hmi] at hv hu
        obtain rfl : V.int m = v := by simpa using hv
        obtain rfl : cuOf m = u := by simpa using hu
        have hmm := ho.bd m (List.mem_of_getElem? hmi)
        refine ⟨_, rfl, fun d1 h1 d2 h2 x dx nx ndx nex => ?_⟩
        have n12 : d1 ≠ d2 := by rintro rfl; rw [upd_same] at h2; cases h2
        have g1 : (upd (upd G d1 (.dT [])) d2 (.dT [])) d1 = some (.dT []) := by rw [upd_ne n12, upd_same]
        have g2 : (upd (upd G d1 (.dT [])) d2 (.dT [])) d2 = some (.dT []) := upd_same
        have sA : Same G (upd (upd G d1 (.dT [])) d2 (.dT [])) := (Same.new h1).trans (Same.new h2)
        generalize upd (upd G d1 (.dT [])) d2 (.dT []) = G2 at nx ndx g1 g2 sA ⊢
        have e1 : (upd (upd G2 dx (.own x)) x (.ins A.C_Part dx [])) d1 = some (.dT []) := by rw [upd_ne (ne_of_none g1 nx), upd_ne (ne_of_none g1 ndx)]; exact g1
        have e2 : (upd (upd G2 dx (.own x)) x (.ins A.C_Part dx [])) d2 = some (.dT []) := by rw [upd_ne (ne_of_none g2 nx), upd_ne (ne_of_none g2 ndx)]; exact g2
        refine ⟨x, dx, d1, d2, rfl, upd_same, e1, e2, fun H5 hP hk5 => ⟨rfl, (by show 1 ≤ 1000; decide), fun l hl c dc nc ndc nec => ?_⟩⟩
        have sB : Same G H5 := sA.trans (made_sm nx ndx hk5)
        have sC : Same H5 (upd H5 l (.lst [.ref x])) := Same.new hl
        have gl : (upd H5 l (.lst [.ref x])) l = some (.lst [.ref x]) := upd_same
        generalize upd H5 l (.lst [.ref x]) = G6 at nc ndc sC gl ⊢
        have sD : Same G6 (upd (upd G6 dc (.own c)) c (.ins A.C_Cue dc [])) := (Same.new ndc).upd nc
        refine ⟨c, dc, l, m, false, .non, [x], rfl, upd_same, hmm.1, hmm.2, .inl rfl, sD _ _ gl, (by show 1 ≤ 1; decide), (by show 1 ≤ 9; decide), fun p hp => ?_, fun H8 L hL hC8 hk8 => ⟨rfl, ?_⟩⟩
        · rw [List.mem_singleton] at hp; subst hp; exact hP.keep (sC.trans sD)
        · have sE : Same G H8 := (sB.trans sC).trans (made_sm nc ndc hk8)
          exact q _ _ _ ⟨c, rfl, hC8.hide (sE _ _ hy) (Ne.symm (ne_of_none (((sB.trans sC).trans sD) _ _ hy) hL))⟩ sE ⟨_, rfl⟩
    · obtain ⟨cs, rfl, hcs⟩ := refs_of hp
      exact k D cs G hDl (by rw [Paired.length hcs, hul]; exact hsz) hcs sm
theorem cues_fo (ms : List Int) (h : NumsOk ms) : ∀ u ∈ cuesOf ms, u.fo = .non ∧ 1 ≤ u.n := fun u hu => by
  obtain ⟨m, hm, rfl⟩ := List.mem_map.mp hu
  exact ⟨rfl, (h.bd m hm).1⟩
theorem ints_flat (us : List Cu) : (intsAt us).all flatV = true := by unfold intsAt; rw [List.all_map]; exact List.all_eq_true.mpr fun _ _ => rfl
def goalF (us : List Cu) (h wd to : Int) : Option Int := if wd = 0 then goN us h else if wd = 1 ∧ 0 < h then some (prevN us h) else if wd = 2 ∧ (hasC us to).isSome = true then some to else none
def spGoal (K : PySem.W.Frag) : Sp := fun vs H Q _ => ∃ (B : Addr) (us : List Cu) (h wd to : Int), vs = [.ref B, .int h, .int wd, .int to] ∧ H B = some (.lst (intsAt us)) ∧ Rising us ∧ us.length ≤ 900 ∧ ∀ H', Same H H' → Q (oV (goalF us h wd to)) H'
theorem ok_law_goal (T : Txt K mg A) : FnOk P w K mg base (CXE P w) 1 A.f_law_goal A.d_law_goal ["_law_numbers_here", "_law_here", "_law_word", "_law_to"] (spGoal K) := by
  refine T.F_law_goal.okN sc_law_goal (fun vs H Q E h => ?_) (fun cdv Ar outer s H vs Q E hr h => ?_)
  · obtain ⟨B, us, n, wd, to, rfl, hB, hri, hz, k⟩ := h
    rfl
  · obtain ⟨B, us, n, wd, to, rfl, hB, hri, hz, k⟩ := h
    refine ⟨_, (pss_cons (ps_if (pt_cmpR op_eq (pv 2) pe_int (nomark _)) (pss_one (ps_ret (pe_callBK (call_minV K rfl) (by rfl) T.b_min boot_min (pa_cons (pe_compIf ["_law_number", "_law_here"] [none, some 1] rfl (pi_listK K (pv 0)) (fun _ _ _ => (pg_name (i := 0) ndc_law_goal_1 rfl (Or.inl rfl))) (fun _ _ _ => (pt_cmpR op_gt (pv 0) (pv 1) (nomark _))) (fun _ _ _ => (pv 0))) pa_nil) (pk_cons pe_non pk_nil)))) pss_nil)
      (pss_cons (ps_if (PW.pt (pw_and (pt_cmpR op_eq (pv 2) pe_int (nomark _)) (pw_and1 (pt_cmpR op_gt (pv 1) pe_int (nomark _))))) (pss_one (ps_ret (pe_callBK (call_maxD K rfl) (by rfl) T.b_max boot_max (pa_cons (pe_compIf ["_law_number", "_law_here"] [none, some 1] rfl (pi_listK K (pv 0)) (fun _ _ _ => (pg_name (i := 0) ndc_law_goal_0 rfl (Or.inl rfl))) (fun _ _ _ => (pt_cmpR op_lt (pv 0) (pv 1) (nomark _))) (fun _ _ _ => (pv 0))) pa_nil) (pk_cons pe_int pk_nil)))) pss_nil)
      (pss_cons (ps_if (PW.pt (pw_and (pt_cmpR op_eq (pv 2) pe_int (nomark _)) (pw_and1 (pt_cmpR (op_in_seqK K) (pv 3) (pv 0) (by with_unfolding_all rfl))))) (pss_one (ps_ret (pv 3))) pss_nil)
      (pss_one (ps_ret pe_non))))), ?_⟩
    have il : (intsAt us).length = us.length := List.length_map _
    unfold goalF at k
    by_cases c0 : wd = 0
    · rw [if_pos c0] at k
      refine seq_cut (fun _ _ => False) (fun N hN => ?_) (fun _ _ z => z.elim)
      refine ⟨_, rfl, rfl, _, rfl, ?_⟩
      rw [decide_eq_true (show V.int wd = V.int 0 by rw [c0])]
      refine iteT ⟨_, rfl, B, rfl, ⟨_, SqL.of hB⟩, fun D hD => ?_⟩
      refine compIf_pr (fun u : Cu => decide (u.n > n)) (fun u => .int u.n) (fun σ => ∃ z, σ = [z, some (.int n)]) (SqL.of hB) hD (by omega) il.symm ⟨none, rfl⟩ (fun i v u σ' G N hv hu ho sm q => ?_) fun G sm hDl => ?_
      · obtain ⟨z, rfl⟩ := ho
        unfold intsAt at hv
        rw [List.getElem?_map, hu] at hv
        obtain rfl : V.int u.n = v := by simpa using hv
        have q' := q [some (.int u.n), some (.int n)] G (Same.refl _) ⟨_, rfl⟩
        refine ⟨_, rfl, _, rfl, _, _, rfl, rfl, _, rfl, ?_⟩
        by_cases hb : n < u.n
        · rw [decide_eq_true (show u.n > n from hb)] at q'
          rw [decide_eq_true hb]
          exact iteT ⟨_, rfl, q'⟩
        · rw [decide_eq_false (show ¬ u.n > n from hb)] at q'
          rw [decide_eq_false hb]
          exact iteF q'
      have kG := k G sm
      unfold goN at kG
      refine ⟨D, nsAbove us n, .non, rfl, rfl, SqL.of (by rw [hDl]; unfold nsAbove; rw [List.map_map]; rfl), fun z => ?_, fun m' ne hm hle => ?_⟩
      · cases e : nextC us n with
        | none => rw [e] at kG; exact kG
        | some u =>
          obtain ⟨hu, hn⟩ := next_mem e
          have um : u.n ∈ nsAbove us n := List.mem_map.mpr ⟨u, List.mem_filter.mpr ⟨hu, decide_eq_true hn⟩, rfl⟩
          rw [z] at um
          simp at um
      · have e1 := least_next hri (n := n) (m := m') ⟨fun z => absurd z ne, fun _ => ⟨hm, hle⟩⟩
        unfold nextN at e1
        cases e : nextC us n with
        | none =>
          exfalso
          refine ne ?_
          unfold nsAbove
          rw [List.filter_eq_nil_iff.mpr fun u hu => List.find?_eq_none.mp e u hu]; rfl
        | some u =>
          rw [e] at e1 kG
          rw [show m' = u.n from e1]
          exact kG
    rw [if_neg c0] at k
    refine seq_cut (fun σ' H' => σ' = [some (.ref B), some (.int n), some (.int wd), some (.int to)] ∧ H' = H) (fun N hN => ?_) ?_
    · refine ⟨_, rfl, rfl, _, rfl, ?_⟩
      rw [decide_eq_false (show ¬ V.int wd = V.int 0 from fun z => c0 (V.int.inj z))]
      exact iteF (hN _ _ ⟨rfl, rfl⟩)
    rintro σ' H1 ⟨rfl, rfl⟩
    by_cases c1 : wd = 1 ∧ 0 < n
    · rw [if_pos c1] at k
      refine seq_cut (fun _ _ => False) (fun N hN => ?_) (fun _ _ z => z.elim)
      refine ⟨_, rfl, rfl, _, rfl, ?_⟩
      rw [decide_eq_true (show V.int wd = V.int 1 by rw [c1.1])]
      refine iteT ⟨_, rfl, _, _, rfl, rfl, _, rfl, ?_⟩
      rw [decide_eq_true c1.2]
      refine iteT ⟨_, rfl, B, rfl, ⟨_, SqL.of hB⟩, fun D hD => ?_⟩
      refine compIf_pr (fun u : Cu => decide (u.n < n)) (fun u => .int u.n) (fun σ => ∃ z, σ = [z, some (.int n)]) (SqL.of hB) hD (by omega) il.symm ⟨none, rfl⟩ (fun i v u σ' G N hv hu ho sm q => ?_) fun G sm hDl => ?_
      · obtain ⟨z, rfl⟩ := ho
        unfold intsAt at hv
        rw [List.getElem?_map, hu] at hv
        obtain rfl : V.int u.n = v := by simpa using hv
        have q' := q [some (.int u.n), some (.int n)] G (Same.refl _) ⟨_, rfl⟩
        refine ⟨_, rfl, _, rfl, _, _, rfl, rfl, _, rfl, ?_⟩
        by_cases hb : u.n < n
        · rw [decide_eq_true hb] at q' ⊢
          exact iteT ⟨_, rfl, q'⟩
        · rw [decide_eq_false hb] at q' ⊢
          exact iteF q'
      refine ⟨D, nsBelow us n, 0, rfl, rfl, SqL.of (by rw [hDl]; unfold nsBelow; rw [List.map_map]; rfl), fun m' g1 g2 => ?_⟩
      have := k G sm
      rw [← most_prev hri ⟨g1, g2⟩] at this
      exact this
    rw [if_neg c1] at k
    refine seq_cut (fun σ' H' => σ' = [some (.ref B), some (.int n), some (.int wd), some (.int to)] ∧ H' = H1) (fun N hN => ?_) ?_
    · refine ⟨_, rfl, rfl, _, rfl, ?_⟩
      by_cases e1 : wd = 1
      · rw [decide_eq_true (show V.int wd = V.int 1 by rw [e1])]
        refine iteT ⟨_, rfl, _, _, rfl, rfl, _, rfl, ?_⟩
        rw [decide_eq_false (fun z => c1 ⟨e1, z⟩)]
        exact iteF (hN _ _ ⟨rfl, rfl⟩)
      · rw [decide_eq_false (show ¬ V.int wd = V.int 1 from fun z => e1 (V.int.inj z))]
        exact iteF (iteF (hN _ _ ⟨rfl, rfl⟩))
    rintro σ' H2 ⟨rfl, rfl⟩
    have ev : inV (.int to) (intsAt us) = (hasC us to).isSome := inV_ints us
    refine ⟨_, rfl, rfl, _, rfl, ?_⟩
    by_cases e2 : wd = 2
    · rw [decide_eq_true (show V.int wd = V.int 2 by rw [e2])]
      refine iteT ⟨_, rfl, _, rfl, B, _, rfl, .inl (SqL.of hB), rfl, ints_flat us, _, rfl, ?_⟩
      show if (if false = true then _ else inV (V.int to) (intsAt us)) = true then _ else _
      rw [if_neg Bool.false_ne_true, ev]
      cases eh : (hasC us to).isSome with
      | true =>
        rw [if_pos ⟨e2, eh⟩] at k
        exact iteT ⟨_, rfl, k _ (Same.refl _)⟩
      | false =>
        rw [if_neg (fun z => by rw [eh] at z; cases z.2)] at k
        exact iteF (k _ (Same.refl _))
    · rw [decide_eq_false (show ¬ V.int wd = V.int 2 from fun z => e2 (V.int.inj z))]
      rw [if_neg (fun z => e2 z.1)] at k
      exact iteF (iteF (k _ (Same.refl _)))
def deedF (us : List Cu) (n wd to : Int) : Option Int := if wd = 0 then goN us n else if wd = 1 then backN us n else if (hasC us to).isSome = true then some to else none
theorem deed_goal {us : List Cu} {n wd to : Int} (hn : 0 ≤ n) (h0 : 0 ≤ wd) (h2 : wd ≤ 2) : deedF us n wd to = goalF us n wd to := by
  unfold deedF goalF backN
  by_cases c0 : wd = 0
  · rw [if_pos c0, if_pos c0]
  rw [if_neg c0, if_neg c0]
  by_cases c1 : wd = 1
  · rw [if_pos c1]
    by_cases c : n = 0
    · rw [if_pos c, if_neg (fun z => by omega), if_neg (fun z => by omega)]
    · rw [if_neg c, if_pos ⟨c1, by omega⟩]
  · rw [if_neg c1, if_neg (show ¬ (wd = 1 ∧ 0 < n) from fun z => c1 z.1)]
    have c2 : wd = 2 := by omega
    by_cases c : (hasC us to).isSome = true
    · rw [if_pos c, if_pos ⟨c2, c⟩]
    · rw [if_neg c, if_neg (show ¬ (wd = 2 ∧ (hasC us to).isSome = true) from fun z => c z.2)]
def spDeed (A : Adr) : Sp := fun vs H Q _ => ∃ (r : Addr) (us : List Cu) (n : Int) (last : V) (wd t to : Int), vs = [.ref r, .int wd, .int t, .int to] ∧ RunAt A H r us n last ∧ LastOk last t 1 ∧
  (deedF us n wd to = none → ∀ H', Same H H' → Q .non H') ∧ (∀ m, deedF us n wd to = some m → ∀ H', RunAt A H' r us m (.int t) → Frame r H H' → Q (.int m) H')
theorem ok_law_deed (T : Txt K mg A) : FnOk P w K mg base (CXE P w) 10 A.f_law_deed A.d_law_deed ["_law_run", "_law_word", "_law_tick", "_law_to"] (spDeed A) := by
  have G_Run_back := ok_Run_back (P := P) (w := w) (base := base) T
  have G_Run_go := ok_Run_go (P := P) (w := w) (base := base) T
  have G_Run_goto := ok_Run_goto (P := P) (w := w) (base := base) T
  refine T.F_law_deed.okN sc_law_deed (fun vs H Q E h => ?_) (fun cdv Ar outer s H vs Q E hr h => ?_)
  · obtain ⟨r, us, n, last, wd, t, to, rfl, hR, hlast, k0, k1⟩ := h
    rfl
  · obtain ⟨r, us, n, last, wd, t, to, rfl, hR, hlast, k0, k1⟩ := h
    refine ⟨_, (pss_cons (ps_tryN K rfl rfl rfl (pb_if (pt_cmpR op_eq (pv 1) pe_int (nomark _)) (pb_set (i := 4) sc_law_deed.nd rfl (Or.inl rfl) (px_meth rfl (fun _ => (pv 0)) T.cl_Run T.me_Run_go G_Run_go (hr.mono (by decide)) T.bb_Run_go .nil (fun _ => (pa_cons (pv 2) pa_nil)))) (pb_if (pt_cmpR op_eq (pv 1) pe_int (nomark _)) (pb_set (i := 4) sc_law_deed.nd rfl (Or.inl rfl) (px_meth rfl (fun _ => (pv 0)) T.cl_Run T.me_Run_back G_Run_back (hr.mono (by decide)) T.bb_Run_back .nil (fun _ => (pa_cons (pv 2) pa_nil)))) (pb_set (i := 4) sc_law_deed.nd rfl (Or.inl rfl) (px_meth rfl (fun _ => (pv 0)) T.cl_Run T.me_Run_goto G_Run_goto (hr.mono (by decide)) T.bb_Run_goto .nil (fun _ => (pa_cons (pv 2) (pa_cons (pv 3) pa_nil))))))) (by rfl) T.c_NoCue (fun _ => (pss_one (ps_set (i := 4) sc_law_deed.nd rfl (Or.inl rfl) pe_non))))
      (pss_one (ps_ret (pv 4)))), ?_⟩
    obtain ⟨dr, x, dx, d, Lc0, Lt0, cs0, e1, e2, e3, e4, e5, e6⟩ := hR.ex
    refine seq_cut (fun σ' H' => ∃ v, σ' = [some (.ref r), some (.int wd), some (.int t), some (.int to), some v] ∧ Q v H') (fun N hN => ?_) ?_
    · refine ⟨_, rfl, rfl, _, rfl, ?_⟩
      unfold deedF at k0 k1
      by_cases c0 : wd = 0
      · rw [if_pos c0] at k0 k1
        rw [decide_eq_true (show V.int wd = V.int 0 by rw [c0])]
        refine iteT ⟨_, rfl, r, dr, _, rfl, e1, rfl, _, rfl, r, us, n, last, t, rfl, hR, hlast, fun m hm H' hR' fr => hN _ _ ⟨_, rfl, k1 m hm H' hR' fr⟩, fun hm H' s' => ⟨T.xe_NoCue_NoCue, fun ea hea => hN _ _ ⟨_, rfl, k0 hm _ (s'.trans (Same.new hea))⟩⟩⟩
      rw [if_neg c0] at k0 k1
      rw [decide_eq_false (show ¬ V.int wd = V.int 0 from fun z => c0 (V.int.inj z))]
      refine iteF ⟨_, rfl, rfl, _, rfl, ?_⟩
      by_cases c1 : wd = 1
      · rw [if_pos c1] at k0 k1
        rw [decide_eq_true (show V.int wd = V.int 1 by rw [c1])]
        refine iteT ⟨_, rfl, r, dr, _, rfl, e1, rfl, _, rfl, r, us, n, last, t, rfl, hR, hlast, fun m hm H' hR' fr => hN _ _ ⟨_, rfl, k1 m hm H' hR' fr⟩, fun hm H' s' => ⟨T.xe_NoCue_NoCue, fun ea hea => hN _ _ ⟨_, rfl, k0 hm _ (s'.trans (Same.new hea))⟩⟩⟩
      rw [if_neg c1] at k0 k1
      rw [decide_eq_false (show ¬ V.int wd = V.int 1 from fun z => c1 (V.int.inj z))]
      refine iteF ⟨_, rfl, r, dr, _, rfl, e1, rfl, _, rfl, _, rfl, r, us, n, last, t, to, rfl, hR, hlast, fun hm H' hR' fr => hN _ _ ⟨_, rfl, k1 to (if_pos hm) H' hR' fr⟩, fun hm H' s' => ⟨T.xe_NoCue_NoCue, fun ea hea => hN _ _ ⟨_, rfl, k0 (if_neg (by rw [hm]; simp)) _ (s'.trans (Same.new hea))⟩⟩⟩
    rintro σ' H1 ⟨v, rfl, q⟩
    exact ⟨_, rfl, q⟩
theorem LastOk.two {last : V} {t : Int} (h : LastOk last t 1) : LastOk last (2 * t + 1) 2 := by
  rcases h with h | ⟨L, e, h⟩
  · exact .inl h
  · exact .inr ⟨L, e, by omega⟩
def spStands (A : Adr) : Sp := fun vs H Q _ => ∃ (r : Addr) (us : List Cu) (n : Int) (last : V) (t : Int), vs = [.ref r, .int t, .int n] ∧ RunAt A H r us n last ∧ LastOk last t 1 ∧ ∀ H', Same H H' → Q (.bl true) H'
theorem ok_law_stands (T : Txt K mg A) : FnOk P w K mg base (CXE P w) 8 A.f_law_stands A.d_law_stands ["_law_run", "_law_tick", "_law_here"] (spStands A) := by
  have G_Run_number_at := ok_Run_number_at (P := P) (w := w) (base := base) T
  have G_law_whole := ok_law_whole (P := P) (w := w) (base := base) T
  refine T.F_law_stands.okN sc_law_stands (fun vs H Q E h => ?_) (fun cdv Ar outer s H vs Q E hr h => ?_)
  · obtain ⟨r, us, n, last, t, rfl, hR, hlast, k⟩ := h
    rfl
  · obtain ⟨r, us, n, last, t, rfl, hR, hlast, k⟩ := h
    refine ⟨_, (pss_cons (ps_for PassesOwn.never rfl (pi_listK K (pe_lstS (pa_cons (pe_meth (pv 0) T.cl_Run T.me_Run_number_at G_Run_number_at (hr.mono (by decide)) T.bd_Run_number_at T.dv_Run_number_at passE0 (pa_cons (pv 1) pa_nil)) (pa_cons (pe_meth (pv 0) T.cl_Run T.me_Run_number_at G_Run_number_at (hr.mono (by decide)) T.bb_Run_number_at .nil passE0 (pa_cons (pe_op op_add (pe_op op_mul pe_int (pv 1)) pe_int) (pa_cons pe_int pa_nil))) pa_nil)))) (pg_name (i := 3) sc_law_stands.nd rfl (Or.inl rfl)) (pss_one (ps_if (PW.pt (pw_or (pt_not (pt_val (pe_call G_law_whole (hr.mono (by decide)) (by rfl) T.m_law_whole T.F_law_whole.kp T.bb_law_whole .nil passE0 (pa_cons (pv 3) pa_nil)))) (pw_or1 (pt_cmpR op_ne (pv 3) (pv 2) (nomark _))))) (pss_one (ps_ret pe_bl)) pss_nil)))
      (pss_one (ps_ret pe_bl))), ?_⟩
    obtain ⟨dr, x, dx, d, Lc0, Lt0, cs0, e1, e2, e3, e4, e5, e6⟩ := hR.ex
    refine seq_cut (fun σ' H' => Same H H') (fun N hN => ?_) ?_
    · refine ⟨_, rfl, r, dr, _, rfl, e1, rfl, _, rfl, r, us, n, last, t, 1, rfl, hR, hlast, ⟨by decide, by decide⟩, fun H1 s1 => ?_⟩
      refine ⟨_, rfl, r, dr, _, rfl, s1 _ _ e1, rfl, _, rfl, _, _, rfl, rfl, .inl ⟨by decide, by decide⟩, _, _, rfl, rfl, r, us, n, last, 2 * t + 1, 2, rfl, hR.keep s1, hlast.two, ⟨by decide, by decide⟩, fun H2 s2 => ?_⟩
      refine ⟨(by show 2 ≤ 1000; decide), fun q hq => ⟨q, rfl, ⟨_, SqL.of upd_same⟩, ?_⟩⟩
      have s3 := Same.new (o := HO.lst [V.int n, V.int n]) hq
      have f3 : (upd H2 q (HO.lst [V.int n, V.int n])) q = some (HO.lst [V.int n, V.int n]) := upd_same
      generalize upd H2 q (HO.lst [V.int n, V.int n]) = H3 at s3 f3 ⊢
      refine for_list (K := K) (a := q) (xs := [V.int n, V.int n]) (fun i σ H' => ∃ z, σ = [some (.ref r), some (.int t), some (.int n), z] ∧ H' = H3) ⟨_, rfl, rfl⟩ ?_ ?_ ?_
      · rintro i σ H4 _ ⟨_, _, rfl⟩
        exact SqL.of f3
      · rintro i v σ H4 hi ⟨z, rfl, rfl⟩
        have hv : v = .int n := by
          have := List.mem_of_getElem? hi
          simpa using this
        subst hv
        refine ⟨_, rfl, n, rfl, _, rfl, iteF ?_⟩
        refine ⟨_, rfl, _, rfl, rfl, _, rfl, ?_⟩
        rw [decide_eq_true rfl]
        exact iteF ⟨_, rfl, rfl⟩
      · rintro σ H4 ⟨z, rfl, rfl⟩
        exact hN _ _ (s1.trans (s2.trans s3))
    rintro σ' H1 s1
    exact k _ s1
theorem ints_cues (ms : List Int) : (ms.map V.int) = intsAt (cuesOf ms) := (cues_ints ms).symm
theorem cut_ints (ks : List Int) (lo hi : Option Int) : ∃ ds : List Int, cutV (ks.map V.int) lo hi = ds.map V.int ∧ ds.length ≤ ks.length := by
  unfold cutV
  rw [← List.map_drop, ← List.map_take]
  refine ⟨_, rfl, ?_⟩
  rw [List.length_take, List.length_drop]
  omega
structure LMid (A : Adr) (H : Hp) (B r Dd : Addr) (ms ds : List Int) (here tick : Int) (last : V) : Prop where
  nm : NumsOk ms
  nb : H B = some (.lst (ms.map V.int))
  rn : RunAt A H r (cuesOf ms) here last
  lo : LastOk last tick 1
  dd : H Dd = some (.lst (ds.map V.int))
theorem LastOk.mono {last : V} {t t' : Int} (h : LastOk last t 1) (l : t ≤ t') : LastOk last t' 1 := by
  rcases h with h | ⟨L, e, h⟩
  · exact .inl h
  · exact .inr ⟨L, e, by omega⟩
theorem LMid.keep {A : Adr} {H H' : Hp} {B r Dd : Addr} {ms ds : List Int} {here tick : Int} {last : V} (h : LMid A H B r Dd ms ds here tick last) (s : Same H H') : LMid A H' B r Dd ms ds here tick last := ⟨h.nm, s _ _ h.nb, h.rn.keep s, h.lo, s _ _ h.dd⟩
theorem RunAt.ne {A : Adr} {H : Hp} {r b : Addr} {us : List Cu} {n : Int} {last : V} {xs : List V} (h : RunAt A H r us n last) (e : H b = some (.lst xs)) : b ≠ r := by
  obtain ⟨dr, x, dx, d, Lc, Lt, cs, e1, _⟩ := h.ex
  exact ne_of e e1 (by intro z; cases z)
theorem ok_law (T : Txt K mg A) : FnOk P w K mg base (CXE P w) 11 A.f_law A.d_law ["_law_script"] (spLaw K) := by
  have G_Run_change := ok_Run_change (P := P) (w := w) (base := base) T
  have G_Run_init := ok_Run_init (P := P) (w := w) (base := base) T
  have G_law_cell_at := ok_law_cell_at (P := P) (w := w) (base := base) T
  have G_law_cues := ok_law_cues (P := P) (w := w) (base := base) T
  have G_law_deed := ok_law_deed (P := P) (w := w) (base := base) T
  have G_law_draw := ok_law_draw (P := P) (w := w) (base := base) T
  have G_law_goal := ok_law_goal (P := P) (w := w) (base := base) T
  have G_law_numbers := ok_law_numbers (P := P) (w := w) (base := base) T
  have G_law_rest := ok_law_rest (P := P) (w := w) (base := base) T
  have G_law_stands := ok_law_stands (P := P) (w := w) (base := base) T
  have G_law_whole := ok_law_whole (P := P) (w := w) (base := base) T
  refine T.F_law.okN sc_law (fun vs H Q E h => ?_) (fun cdv Ar outer s H vs Q E hr h => ?_)
  · obtain ⟨a, ns, rfl, hS, hlen, k⟩ := h
    rfl
  · obtain ⟨a, ns, rfl, hS, hlen, k⟩ := h
    refine ⟨_, (pss_cons (ps_set (i := 0) sc_law.nd rfl (Or.inr rfl) (pe_comp ["_law_cell", "_law_script"] [none, some 0] rfl (pi_listK K (pv 0)) (fun _ _ _ => (pg_name (i := 0) ndc_law_0 rfl (Or.inl rfl))) (fun _ _ _ => (pe_op op_add (pe_op op_mul pe_int (pv 0)) (pe_op op_mod (pe_callB (call_sumK K rfl) (by rfl) T.b_sum boot_sum (pa_cons (pe_slice (sl_listK K) (pv 1) po_none (po_some pe_int)) pa_nil)) pe_int)))))
      (pss_cons (ps_set (i := 1) sc_law.nd rfl (Or.inl rfl) (pe_op op_mod (pe_op op_fdivL (pe_call G_law_cell_at (hr.mono (by decide)) (by rfl) T.m_law_cell_at T.F_law_cell_at.kp T.bb_law_cell_at .nil passE0 (pa_cons (pv 0) (pa_cons pe_int pa_nil))) pe_int) pe_int))
      (pss_cons (ps_set (i := 2) sc_law.nd rfl (Or.inl rfl) (pe_call G_law_numbers (hr.mono (by decide)) (by rfl) T.m_law_numbers T.F_law_numbers.kp T.bb_law_numbers .nil passE0 (pa_cons (pe_call G_law_cell_at (hr.mono (by decide)) (by rfl) T.m_law_cell_at T.F_law_cell_at.kp T.bb_law_cell_at .nil passE0 (pa_cons (pv 0) (pa_cons pe_int pa_nil))) (pa_cons (pv 1) pa_nil))))
      (pss_cons (ps_set (i := 3) sc_law.nd rfl (Or.inl rfl) (pe_make T.M_Run G_Run_init (hr.mono (by decide)) (by rfl) T.c_Run T.bb_Run_init .nil passE0 (pa_cons (pe_call G_law_cues (hr.mono (by decide)) (by rfl) T.m_law_cues T.F_law_cues.kp T.bb_law_cues .nil passE0 (pa_cons (pv 2) pa_nil)) pa_nil)))
      (pss_cons (ps_set (i := 4) sc_law.nd rfl (Or.inl rfl) pe_int)
      (pss_cons (ps_set (i := 5) sc_law.nd rfl (Or.inl rfl) pe_int)
      (pss_cons (ps_set (i := 6) sc_law.nd rfl (Or.inl rfl) (pe_slice (sl_listK K) (pv 0) (po_some pe_int) (po_some pe_int)))
      (pss_cons (ps_for PassesOwn.never rfl (pi_range1 (by rfl) T.b_range (pa_cons (pe_callB (call_lenK K) (by rfl) T.b_len PySem.boot_len (pa_cons (pv 6) pa_nil)) pa_nil)) (pg_name (i := 7) sc_law.nd rfl (Or.inl rfl)) (pss_cons (ps_set (i := 8) sc_law.nd rfl (Or.inl rfl) (pe_call G_law_draw (hr.mono (by decide)) (by rfl) T.m_law_draw T.F_law_draw.kp T.bb_law_draw .nil passE0 (pa_cons (pe_ix (ix_listK K) (pv 6) (pv 7) (fun _ _ => rfl)) (pa_cons (pe_op op_add pe_int (pv 7)) pa_nil))))
      (pss_cons (ps_set (i := 5) sc_law.nd rfl (Or.inl rfl) (pe_op op_add (pv 5) (pe_op op_mod (pe_call G_law_draw (hr.mono (by decide)) (by rfl) T.m_law_draw T.F_law_draw.kp T.bb_law_draw .nil passE0 (pa_cons (pe_ix (ix_listK K) (pv 6) (pv 7) (fun _ _ => rfl)) (pa_cons (pe_op op_add pe_int (pv 7)) pa_nil))) (pe_menu (pa_cons pe_int (pa_cons (pe_op op_powS pe_int pe_int) pa_nil)) (pv 1) (fun _ _ => rfl)))))
      (pss_cons (ps_set (i := 9) sc_law.nd rfl (Or.inl rfl) (pe_menu (pa_cons pe_int (pa_cons pe_int (pa_cons pe_int (pa_cons pe_int (pa_cons pe_int (pa_cons pe_int (pa_cons pe_int (pa_cons pe_int pa_nil)))))))) (pe_op op_mod (pv 8) pe_int) (fun _ _ => rfl)))
      (pss_cons (ps_if (pt_cmpR op_eq (pv 9) pe_int (nomark _)) (pss_cons (ps_set (i := 2) sc_law.nd rfl (Or.inl rfl) (pe_call G_law_numbers (hr.mono (by decide)) (by rfl) T.m_law_numbers T.F_law_numbers.kp T.bb_law_numbers .nil passE0 (pa_cons (pe_call G_law_rest (hr.mono (by decide)) (by rfl) T.m_law_rest T.F_law_rest.kp T.bb_law_rest .nil passE0 (pa_cons (pe_ix (ix_listK K) (pv 6) (pv 7) (fun _ _ => rfl)) pa_nil)) (pa_cons (pv 1) pa_nil))))
      (pss_one (ps_if (pt_cmpR op_ne (pe_meth (pv 3) T.cl_Run T.me_Run_change G_Run_change (hr.mono (by decide)) T.bb_Run_change .nil passE0 (pa_cons (pv 5) (pa_cons (pe_call G_law_cues (hr.mono (by decide)) (by rfl) T.m_law_cues T.F_law_cues.kp T.bb_law_cues .nil passE0 (pa_cons (pv 2) pa_nil)) pa_nil))) (pv 4) (nomark _)) (pss_one (ps_ret pe_bl)) pss_nil))) (pss_cons (ps_set (i := 10) sc_law.nd rfl (Or.inl rfl) (pe_op op_cat (pv 2) (pe_lstS (pa_cons (pv 4) (pa_cons (pe_op op_add (pv 4) pe_int) (pa_cons pe_int pa_nil))))))
      (pss_cons (ps_set (i := 11) sc_law.nd rfl (Or.inl rfl) (pe_ix (ix_listK K) (pv 10) (pe_op op_mod (pe_call G_law_draw (hr.mono (by decide)) (by rfl) T.m_law_draw T.F_law_draw.kp T.bb_law_draw .nil passE0 (pa_cons (pe_ix (ix_listK K) (pv 6) (pv 7) (fun _ _ => rfl)) (pa_cons (pe_op op_add pe_int (pv 7)) pa_nil))) (pe_callB (call_lenK K) (by rfl) T.b_len PySem.boot_len (pa_cons (pv 10) pa_nil))) (fun _ _ => rfl)))
      (pss_cons (ps_set (i := 12) sc_law.nd rfl (Or.inl rfl) (pe_call G_law_goal (hr.mono (by decide)) (by rfl) T.m_law_goal T.F_law_goal.kp T.bb_law_goal .nil passE0 (pa_cons (pv 2) (pa_cons (pv 4) (pa_cons (pv 9) (pa_cons (pv 11) pa_nil))))))
      (pss_cons (ps_set (i := 13) sc_law.nd rfl (Or.inl rfl) (pe_call G_law_deed (hr.mono (by decide)) (by rfl) T.m_law_deed T.F_law_deed.kp T.bb_law_deed .nil passE0 (pa_cons (pv 3) (pa_cons (pv 9) (pa_cons (pv 5) (pa_cons (pv 11) pa_nil))))))
      (pss_cons (ps_if (PW.pt (pw_or (PW.pt (pw_and (pt_cmp (pc_isN (pv 12))) (pw_and1 (pt_cmp (pc_notN (pv 13)))))) (pw_or1 (PW.pt (pw_and (pt_cmp (pc_notN (pv 12))) (pw_and1 (PW.pt (pw_or (pt_not (pt_val (pe_call G_law_whole (hr.mono (by decide)) (by rfl) T.m_law_whole T.F_law_whole.kp T.bb_law_whole .nil passE0 (pa_cons (pv 13) pa_nil)))) (pw_or1 (pt_cmpR op_ne (pv 13) (pv 12) (nomark _))))))))))) (pss_one (ps_ret pe_bl)) pss_nil)
      (pss_one (ps_if (pt_cmp (pc_notN (pv 12))) (pss_one (ps_set (i := 4) sc_law.nd rfl (Or.inl rfl) (pv 12))) pss_nil))))))))
      (pss_one (ps_if (pt_not (pt_val (pe_call G_law_stands (hr.mono (by decide)) (by rfl) T.m_law_stands T.F_law_stands.kp T.bb_law_stands .nil passE0 (pa_cons (pv 3) (pa_cons (pv 5) (pa_cons (pv 4) pa_nil)))))) (pss_one (ps_ret pe_bl)) pss_nil)))))))
      (pss_one (ps_ret pe_bl)))))))))), ?_⟩
    refine seq_cut (fun σ' H' => ∃ (a' : Addr) (ks : List Int), σ' = [some (.ref a'), none, none, none, none, none, none, none, none, none, none, none, none, none] ∧ H' a' = some (.lst (ks.map V.int)) ∧ ks.length ≤ 63) (fun N hN => ?_) ?_
    · refine ⟨_, rfl, a, rfl, ⟨_, hS⟩, fun D hD => ?_⟩
      refine comp_mp (K := K) (a := a) (xs := ns.map V.int) (fun v => match v with | .int i => .int (2 * i + (ns.take 1).sum % 2) | v => v) (fun σ' => ∃ v, σ' = [v, some (.ref a)]) hS hD (by rw [List.length_map]; omega) ?_ ?_ ?_
      · exact ⟨_, rfl⟩
      · rintro x σ' H2 N2 hx ⟨v0, rfl⟩ sm q
        obtain ⟨i, _, rfl⟩ := List.mem_map.mp hx
        simp only [tSeq, tIfS, tAsg, gName, tRet, tRetN, tNext, tDrop, tTest, tB, tOp, tUn, rI, rI0, rU, rEq, rNe, scal, tVar, tC, tCB, tCons, tNil, tCall, tAnd, tOr, tNot, tAndV, tOrV, tNotV, tLstS, tTupS, tMenu, intsOf, tyName, L2.start, CMul, CDivL, CPowS, List.map_cons, List.map_nil, List.length_cons, List.length_nil, List.cons_append, List.nil_append, List.append_nil, List.getElem?_cons_zero, List.getElem?_cons_succ, List.set_cons_zero, List.set_cons_succ, Nat.reduceAdd, Nat.reduceSub, Nat.zero_add, List.reduceReplicate, Option.some.injEq, exists_eq_left', exists_eq_left, exists_and_left, and_assoc, V.int.injEq, V.bl.injEq, V.ref.injEq, V.ty.injEq, List.cons.injEq, and_true, true_and, decide_eq_true_eq, reduceCtorEq, false_and, and_false, exists_false, Bool.false_eq_true, if_true, if_false, exists_const, true_or, or_true, false_or, or_false, Bool.not_eq_true', decide_eq_false_iff_not, ite_not, Bool.not_true, Bool.not_false, Nat.reduceLeDiff, Int.reduceLT, Int.reduceLE, Int.reduceNeg, Int.reducePow, Int.reduceToNat, Int.reduceAdd, Int.reduceMul, Int.reduceSub, Nat.reducePow, Nat.reduceLT, Int.natCast_add, Int.cast_ofNat_Int, decide_true, decide_false, Int.natCast_zero, Int.zero_add, String.reduceEq, tSl, tNoPart, tPart, rSlL]
        refine ⟨_, sm.seq hS, fun p hp => ⟨ns.take 1, ?_, ?_⟩⟩
        · rw [show (1 : Int) = ((1 : Nat) : Int) from rfl, cut_take, List.map_take]
          exact SqL.of upd_same
        · exact q _ _ (Same.new hp) ⟨_, rfl⟩
      · intro H' sm hD'
        refine hN _ _ ⟨D, ns.map fun i => 2 * i + (ns.take 1).sum % 2, rfl, ?_, ?_⟩
        · rw [hD', List.map_map, List.map_map]; rfl
        · rw [List.length_map]; exact hlen
    clear hS hlen
    rintro σ' H0 ⟨a', ks, rfl, hS0, hml⟩
    have hS := SqL.of (K := K) hS0
    refine seq_cut (fun σ' H' => ∃ w : Int, σ' = [some (.ref a'), some (.int w), none, none, none, none, none, none, none, none, none, none, none, none] ∧ H' = H0 ∧ 0 ≤ w ∧ w ≤ 1) (fun N hN => ?_) ?_
    · exact ⟨_, rfl, a', ks, 0, rfl, hS, by decide, fun v => ⟨_, _, rfl, rfl, ⟨by decide, by decide⟩, _, _, rfl, rfl, (by show (0 : Int) < 2; decide), hN _ _ ⟨_, rfl, rfl, by omega, by omega⟩⟩⟩
    rintro σ' H1 ⟨w, rfl, rfl, w0, w1⟩
    refine seq_cut (fun σ' H' => ∃ (B : Addr) (ms : List Int), σ' = [some (.ref a'), some (.int w), some (.ref B), none, none, none, none, none, none, none, none, none, none, none] ∧ Same H1 H' ∧ H' B = some (.lst (ms.map V.int)) ∧ NumsOk ms) (fun N hN => ?_) ?_
    · exact ⟨_, rfl, a', ks, 1, rfl, hS, by decide, fun v => ⟨_, rfl, v, w, rfl, w0, w1, fun L ms H' _ hL ho s' => hN _ _ ⟨L, ms, rfl, s', hL, ho⟩⟩⟩
    rintro σ' H2 ⟨B, ms, rfl, s2, hB, ho⟩
    refine seq_cut (fun σ' H' => ∃ r, σ' = [some (.ref a'), some (.int w), some (.ref B), some (.ref r), none, none, none, none, none, none, none, none, none, none] ∧ Same H2 H' ∧ RunAt A H' r (cuesOf ms) 0 .non) (fun N hN => ?_) ?_
    · refine ⟨_, rfl, B, ms, rfl, hB, ho, fun C cs H3 hC hz hcs s3 => fun r dr nr ndr nex => ?_⟩
      have s0 : Same H3 (upd (upd H3 dr (.own r)) r (.ins A.C_Run dr [])) := (Same.new ndr).upd nr
      exact ⟨r, dr, C, cs, cuesOf ms, rfl, upd_same, s0 _ _ hC, by omega, hcs.keep s0, cues_rise ho.ri, cues_fo ms ho, fun H4 hR fr => ⟨rfl, hN _ _ ⟨r, rfl, s3.trans fun b o e => fr b o (ne_of_none e nr) (s0 _ _ e), hR⟩⟩⟩
    rintro σ' H3 ⟨r, rfl, s3, hR⟩
    refine seq_cut3 (fun σ' H' => ∃ (Dd : Addr) (ds : List Int), σ' = [some (.ref a'), some (.int w), some (.ref B), some (.ref r), some (.int 0), some (.int 0), some (.ref Dd), none, none, none, none, none, none, none] ∧ ds.length ≤ 63 ∧ LMid A H' B r Dd ms ds 0 0 .non) (fun N hN => ?_) ?_
    · obtain ⟨ds, eds, hdl⟩ := cut_ints ks (some 2) (some 62)
      refine ⟨_, rfl, 2, rfl, 62, rfl, a', _, rfl, SqL.of (s3 _ _ (s2 _ _ hS0)), fun q hq => ?_⟩
      rw [eds]
      have s4 := Same.new (o := HO.lst (ds.map V.int)) hq
      exact hN _ _ ⟨q, ds, rfl, by omega, ⟨ho, s4 _ _ (s3 _ _ hB), hR.keep s4, .inl rfl, upd_same⟩⟩
    rintro σ' H4 ⟨Dd, ds, rfl, hdl, hM⟩
    refine seq_cut (fun _ _ => True) (fun N hN => ?_) (fun _ _ _ => k _)
    refine ⟨_, rfl, Dd, _, rfl, .inl (SqL.of hM.dd), _, rfl, (by rw [List.length_map]; omega), (by rw [List.length_map]; omega), ?_⟩
    rw [List.length_map]
    refine for_range (n := (ds.length : Int).toNat) (fun i σ H' => ∃ (B : Addr) (ms : List Int) (here tick : Int) (last : V) (z1 z2 z3 z4 z5 z6 z7 : Option V), σ = [some (.ref a'), some (.int w), some (.ref B), some (.ref r), some (.int here), some (.int tick), some (.ref Dd), z1, z2, z3, z4, z5, z6, z7] ∧ LMid A H' B r Dd ms ds here tick last) ⟨B, ms, 0, 0, .non, _, _, _, _, _, _, _, rfl, hM⟩ ?_ ?_
    · clear hM hB ho hR s3 s2 hS0 hS
      clear B ms
      rintro i σ H5 hi ⟨B, ms, here, tick, last, z1, z2, z3, z4, z5, z6, z7, rfl, hM⟩
      obtain ⟨v, hv⟩ : ∃ v, ds[i]? = some v := ⟨_, List.getElem?_eq_getElem (by omega)⟩
      have ha : atI (ds.map V.int) (0 + (i : Int)) = some (.int v) := by rw [Int.zero_add]; exact atI_nat (by rw [List.getElem?_map, hv]; rfl)
      have hDd := SqL.of (K := K) hM.dd
      refine seq_cut3 (fun σ' H' => ∃ dh tick' wd : Int, σ' = [some (.ref a'), some (.int w), some (.ref B), some (.ref r), some (.int here), some (.int tick'), some (.ref Dd), some (.int (0 + (i : Int))), some (.int dh), some (.int wd), z4, z5, z6, z7] ∧ H' = H5 ∧ tick ≤ tick' ∧ 0 ≤ wd ∧ wd ≤ 3) (fun N2 hN2 => ?_) ?_
      · have mm := menu_all (P := fun z => 0 < z) (ns := [4, 10 ^ Int.toNat 9]) (k := w) (by simp) (by omega) (by show _ < ((2 : Nat) : Int); omega)
        refine ⟨_, rfl, _, rfl, Dd, _, _, _, rfl, rfl, hDd, ha, _, rfl, _, _, rfl, rfl, v, _, rfl, by omega, by omega, fun dh dh0 dh1 => ?_⟩
        refine ⟨_, rfl, _, rfl, _, rfl, Dd, _, _, _, rfl, rfl, hDd, ha, _, rfl, _, _, rfl, rfl, v, _, rfl, by omega, by omega, fun q q0 q1 => ?_⟩
        refine ⟨_, _, rfl, rfl, ⟨by decide, by decide, by decide, by decide⟩, (by show 2 ≤ 1000; decide), _, rfl, _, _, rfl, rfl, w0, (by show w < ((2 : Nat) : Int); omega), (by show (2 : Int) < 1000; decide), _, _, rfl, rfl, mm, _, _, rfl, rfl, ?_⟩
        have m8 := menu_all (P := fun z => 0 ≤ z ∧ z ≤ 3) (ns := [0, 0, 0, 1, 1, 2, 2, 3]) (k := dh % 8) (by simp) (by omega) (by show _ < ((8 : Nat) : Int); omega)
        have q2 := Int.emod_nonneg q (Int.ne_of_gt mm)
        exact ⟨(by show 8 ≤ 1000; decide), _, rfl, _, _, rfl, rfl, (by show (0 : Int) < 8; decide), _, _, rfl, rfl, by omega, (by show dh % 8 < ((8 : Nat) : Int); omega), (by show (8 : Int) < 1000; decide), hN2 _ _ ⟨dh, _, _, rfl, rfl, by omega, m8.1, m8.2⟩⟩
      rintro σ' H6 ⟨dh, tick', wd, rfl, rfl, ht, d0, d3⟩
      have hlo := hM.lo.mono ht
      obtain ⟨dr, x, dx, d, Lc0, Lt0, cs0, e1, _⟩ := hM.rn.ex
      refine seq_cut (fun σ' H' => ∃ (B : Addr) (ms : List Int) (here : Int) (last : V) (z4 z5 z6 z7 : Option V), σ' = [some (.ref a'), some (.int w), some (.ref B), some (.ref r), some (.int here), some (.int tick'), some (.ref Dd), some (.int (0 + (i : Int))), some (.int dh), some (.int wd), z4, z5, z6, z7] ∧ LMid A H' B r Dd ms ds here tick' last) (fun N2 hN2 => ?_) ?_
      · refine ⟨_, rfl, rfl, _, rfl, ?_⟩
        by_cases c3 : wd = 3
        · rw [decide_eq_true (show V.int wd = V.int 3 by rw [c3])]
          refine iteT ?_
          refine seq_cut (fun σ' H' => ∃ (B' : Addr) (ms' : List Int), σ' = [some (.ref a'), some (.int w), some (.ref B'), some (.ref r), some (.int here), some (.int tick'), some (.ref Dd), some (.int (0 + (i : Int))), some (.int dh), some (.int wd), z4, z5, z6, z7] ∧ Same H6 H' ∧ H' B' = some (.lst (ms'.map V.int)) ∧ NumsOk ms') (fun N3 hN3 => ?_) ?_
          · exact ⟨_, rfl, _, rfl, Dd, _, _, _, rfl, rfl, hDd, ha, v, rfl, fun v2 => ⟨_, rfl, v2, w, rfl, w0, w1, fun L ms' H' _ hL ho' s' => hN3 _ _ ⟨L, ms', rfl, s', hL, ho'⟩⟩⟩
          rintro σ' H7 ⟨B', ms', rfl, s7, hB', ho'⟩
          refine ⟨_, rfl, r, dr, _, rfl, s7 _ _ e1, rfl, _, rfl, _, rfl, B', ms', rfl, hB', ho', fun C cs H8 hC hz hcs s8 => ?_⟩
          have s78 := s7.trans s8
          refine ⟨r, C, cuesOf ms, cuesOf ms', cs, here, last, tick', rfl, hM.rn.keep s78, hlo, hC, by omega, hcs, cues_rise ho'.ri, cues_fo ms' ho', fun H9 hR9 fr => ?_⟩
          refine ⟨_, rfl, rfl, _, rfl, ?_⟩
          rw [decide_eq_true rfl]
          have hR8 := hM.rn.keep s78
          refine iteF (hN2 _ _ ⟨B', ms', here, _, _, _, _, _, rfl, ho', fr _ _ (hR8.ne (s8 _ _ hB')) (s8 _ _ hB'), hR9, .inr ⟨tick', rfl, by omega⟩, fr _ _ (hR8.ne (s78 _ _ hM.dd)) (s78 _ _ hM.dd)⟩)
        · rw [decide_eq_false (show ¬ V.int wd = V.int 3 from fun z => c3 (V.int.inj z))]
          refine iteF ?_
          refine seq_cut2 (fun σ' H' => ∃ (S : Addr) (to : Int), σ' = [some (.ref a'), some (.int w), some (.ref B), some (.ref r), some (.int here), some (.int tick'), some (.ref Dd), some (.int (0 + (i : Int))), some (.int dh), some (.int wd), some (.ref S), some (.int to), z6, z7] ∧ Same H6 H') (fun N3 hN3 => ?_) ?_
          · refine ⟨_, rfl, _, rfl, _, rfl, _, _, rfl, rfl, (by show 3 ≤ 1000; decide), fun p hp => ?_⟩
            have s7 := Same.new (o := HO.lst [V.int here, V.int (here + 1), V.int 0]) hp
            have f7 : (upd H6 p (HO.lst [V.int here, V.int (here + 1), V.int 0])) p = some (HO.lst [V.int here, V.int (here + 1), V.int 0]) := upd_same
            generalize upd H6 p (HO.lst [V.int here, V.int (here + 1), V.int 0]) = H7 at s7 f7 ⊢
            have hsz := hM.nm.sz
            refine ⟨B, p, _, _, rfl, rfl, s7 _ _ hM.nb, f7, le_line (by rw [List.length_map]; show ms.length + 3 ≤ 1000; omega), fun S hS => ?_⟩
            rw [show ms.map V.int ++ [V.int here, V.int (here + 1), V.int 0] = (ms ++ [here, here + 1, 0]).map V.int by rw [List.map_append]; rfl]
            have s8 := Same.new (o := HO.lst ((ms ++ [here, here + 1, 0]).map V.int)) hS
            have f8 : (upd H7 S (HO.lst ((ms ++ [here, here + 1, 0]).map V.int))) S = some (HO.lst ((ms ++ [here, here + 1, 0]).map V.int)) := upd_same
            generalize upd H7 S (HO.lst ((ms ++ [here, here + 1, 0]).map V.int)) = H8 at s8 f8 ⊢
            have s78 := s7.trans s8
            have hDd8 := SqL.of (K := K) (s78 _ _ hM.dd)
            have ll : ((ms ++ [here, here + 1, 0]).map V.int).length = ms.length + 3 := by rw [List.length_map, List.length_append]; rfl
            refine ⟨_, rfl, _, rfl, _, rfl, Dd, _, _, _, rfl, rfl, hDd8, ha, _, rfl, _, _, rfl, rfl, v, _, rfl, by omega, by omega, fun q q0 q1 => ?_⟩
            obtain ⟨c, hc⟩ := atI_in (l := (ms ++ [here, here + 1, 0]).map V.int) (j := q % (((ms ++ [here, here + 1, 0]).map V.int).length : Int)) (Int.emod_nonneg _ (by rw [ll]; omega)) (Int.emod_lt_of_pos _ (by rw [ll]; omega))
            obtain ⟨_, _, e2, _⟩ := atI_get hc
            obtain ⟨to, _, rfl⟩ := List.mem_map.mp (List.mem_of_getElem? e2)
            exact ⟨_, rfl, S, _, rfl, .inl (SqL.of f8), _, _, rfl, rfl, (by rw [ll]; omega), S, _, _, _, rfl, rfl, SqL.of f8, hc, hN3 _ _ ⟨S, to, rfl, s78⟩⟩
          rintro σ' H7 ⟨S, to, rfl, s7⟩
          have hM7 := hM.keep s7
          have hul : (cuesOf ms).length ≤ 900 := by have := hM.nm.sz; show (ms.map cuOf).length ≤ 900; rw [List.length_map]; omega
          have hri := cues_rise hM.nm.ri
          have h2 : wd ≤ 2 := by omega
          have edg := deed_goal (us := cuesOf ms) (to := to) hM.rn.nn d0 h2
          generalize hg : goalF (cuesOf ms) here wd to = g at edg
          refine seq_cut2 (fun σ' H' => ∃ (here' : Int) (last' : V), σ' = [some (.ref a'), some (.int w), some (.ref B), some (.ref r), some (.int here), some (.int tick'), some (.ref Dd), some (.int (0 + (i : Int))), some (.int dh), some (.int wd), some (.ref S), some (.int to), some (oV g), some (oV g)] ∧ (∀ m, g = some m → here' = m) ∧ (g = none → here' = here) ∧ LMid A H' B r Dd ms ds here' tick' last') (fun N3 hN3 => ?_) ?_
          · refine ⟨_, rfl, _, rfl, _, rfl, _, rfl, B, cuesOf ms, here, wd, to, rfl, by rw [← ints_cues]; exact hM7.nb, hri, hul, fun H8 s8 => ?_⟩
            rw [hg]
            have hM8 := hM7.keep s8
            refine ⟨_, rfl, _, rfl, _, rfl, _, rfl, r, cuesOf ms, here, last, wd, tick', to, rfl, hM8.rn, hlo, fun hm H9 s9 => ?_, fun m hm H9 hR9 fr => ?_⟩
            · rw [edg] at hm
              rw [hm] at hN3 ⊢
              exact hN3 _ _ ⟨here, last, rfl, fun _ z => (by cases z), fun _ => rfl, (hM8.keep s9).nm, (hM8.keep s9).nb, (hM8.keep s9).rn, hlo, (hM8.keep s9).dd⟩
            · rw [edg] at hm
              rw [hm] at hN3 ⊢
              exact hN3 _ _ ⟨m, .int tick', rfl, fun _ z => (by cases z; rfl), fun z => (by cases z), hM8.nm, fr _ _ (hM8.rn.ne hM8.nb) hM8.nb, hR9, .inr ⟨tick', rfl, by omega⟩, fr _ _ (hM8.rn.ne hM8.dd) hM8.dd⟩
          rintro σ' H8 ⟨here', last', rfl, g1, g0, hM8⟩
          cases g with
          | none =>
            obtain rfl := g0 rfl
            refine seq_cut (fun σ' H' => σ' = [some (.ref a'), some (.int w), some (.ref B), some (.ref r), some (.int here'), some (.int tick'), some (.ref Dd), some (.int (0 + (i : Int))), some (.int dh), some (.int wd), some (.ref S), some (.int to), some .non, some .non] ∧ H' = H8) (fun N3 hN3 => ?_) ?_
            · refine ⟨_, rfl, _, rfl, ?_⟩
              rw [decide_eq_true (show oV none = V.non from rfl)]
              refine iteT ⟨_, rfl, _, rfl, ?_⟩
              rw [decide_eq_true (show oV none = V.non from rfl)]
              refine iteF ⟨_, rfl, _, rfl, ?_⟩
              rw [decide_eq_true (show oV none = V.non from rfl)]
              exact iteF (iteF (hN3 _ _ ⟨rfl, rfl⟩))
            rintro σ' H9 ⟨rfl, rfl⟩
            refine ⟨_, rfl, _, rfl, ?_⟩
            rw [decide_eq_true rfl]
            exact iteF (hN2 _ _ ⟨B, ms, here', last', _, _, _, _, rfl, hM8⟩)
          | some m =>
            obtain rfl := g1 m rfl
            have nn : ¬ oV (some here') = V.non := fun z => by cases z
            refine seq_cut (fun σ' H' => σ' = [some (.ref a'), some (.int w), some (.ref B), some (.ref r), some (.int here), some (.int tick'), some (.ref Dd), some (.int (0 + (i : Int))), some (.int dh), some (.int wd), some (.ref S), some (.int to), some (.int here'), some (.int here')] ∧ H' = H8) (fun N3 hN3 => ?_) ?_
            · refine ⟨_, rfl, _, rfl, ?_⟩
              rw [decide_eq_false nn]
              refine iteF (iteF ⟨_, rfl, _, rfl, ?_⟩)
              rw [decide_eq_false nn]
              refine iteT ⟨_, rfl, here', rfl, _, rfl, iteF ?_⟩
              refine ⟨_, rfl, _, rfl, rfl, _, rfl, ?_⟩
              rw [decide_eq_true rfl]
              exact iteF (hN3 _ _ ⟨rfl, rfl⟩)
            rintro σ' H9 ⟨rfl, rfl⟩
            refine ⟨_, rfl, _, rfl, ?_⟩
            rw [decide_eq_false (show ¬ V.int here' = V.non from fun z => by cases z)]
            exact iteT ⟨_, rfl, hN2 _ _ ⟨B, ms, here', last', _, _, _, _, rfl, hM8⟩⟩
      rintro σ' H7 ⟨B', ms', here', last', y4, y5, y6, y7, rfl, hM7⟩
      refine ⟨_, rfl, _, rfl, _, rfl, r, cuesOf ms', here', last', tick', rfl, hM7.rn, hM7.lo, fun H8 s8 => ⟨_, rfl, iteF ?_⟩⟩
      exact ⟨B', ms', here', tick', last', _, _, _, _, _, _, _, rfl, hM7.keep s8⟩
    · rintro σ H5 _
      exact hN _ _ trivial
theorem all_mk {l : PySem.W.OpenLaw} {w : World} {K : PySem.W.Frag} {h : Heap} {mg : Str → Option Value} (X : K.In h) (G : h.Ns mainGlobals mg) {C_NoCue : Addr} {C_LampError : Addr} {C_Run : Addr} {C_Step : Addr} {C_Walk : Addr} {C_Cue : Addr} {C_Part : Addr} {fa : Addr} {f0 : Addr} {od0 an0 : Option Addr} {sl0 : Array (Option Value)} {oc0 kV0 dc0 pm0 cd0 ct0 : Value} {f1 : Addr} {od1 an1 : Option Addr} {sl1 : Array (Option Value)} {oc1 kV1 dc1 pm1 cd1 ct1 : Value} {f2 : Addr} {od2 an2 : Option Addr} {sl2 : Array (Option Value)} {oc2 kV2 dc2 pm2 cd2 ct2 : Value} {f3 : Addr} {od3 an3 : Option Addr} {sl3 : Array (Option Value)} {oc3 kV3 dc3 pm3 cd3 ct3 : Value} {f4 : Addr} {od4 an4 : Option Addr} {sl4 : Array (Option Value)} {oc4 kV4 dc4 pm4 cd4 ct4 : Value} {T4 : Addr} {tc4 : Value} {td4 : Option Addr} {tn4 : Nat} {tsl4 : Array (Option Value)} {tk4_0 tk4_1 tk4_2 : Tok} {f5 : Addr} {od5 an5 : Option Addr} {sl5 : Array (Option Value)} {oc5 kV5 dc5 pm5 cd5 ct5 : Value} {f6 : Addr} {od6 an6 : Option Addr} {sl6 : Array (Option Value)} {oc6 kV6 dc6 pm6 cd6 ct6 : Value} {f7 : Addr} {od7 an7 : Option Addr} {sl7 : Array (Option Value)} {oc7 kV7 dc7 pm7 cd7 ct7 : Value} {T7 : Addr} {tc7 : Value} {td7 : Option Addr} {tn7 : Nat} {tsl7 : Array (Option Value)} {f8 : Addr} {od8 an8 : Option Addr} {sl8 : Array (Option Value)} {oc8 kV8 dc8 pm8 cd8 ct8 : Value} {f9 : Addr} {od9 an9 : Option Addr} {sl9 : Array (Option Value)} {oc9 kV9 dc9 pm9 cd9 ct9 : Value} {f10 : Addr} {od10 an10 : Option Addr} {sl10 : Array (Option Value)} {oc10 kV10 dc10 pm10 cd10 ct10 : Value} {f11 : Addr} {od11 an11 : Option Addr} {sl11 : Array (Option Value)} {oc11 kV11 dc11 pm11 cd11 ct11 : Value} {f12 : Addr} {od12 an12 : Option Addr} {sl12 : Array (Option Value)} {oc12 kV12 dc12 pm12 cd12 ct12 : Value} {f13 : Addr} {od13 an13 : Option Addr} {sl13 : Array (Option Value)} {oc13 kV13 dc13 pm13 cd13 ct13 : Value} {f14 : Addr} {od14 an14 : Option Addr} {sl14 : Array (Option Value)} {oc14 kV14 dc14 pm14 cd14 ct14 : Value} {T14 : Addr} {tc14 : Value} {td14 : Option Addr} {tn14 : Nat} {tsl14 : Array (Option Value)} {tk14_0 : Tok} {f15 : Addr} {od15 an15 : Option Addr} {sl15 : Array (Option Value)} {oc15 kV15 dc15 pm15 cd15 ct15 : Value} {f16 : Addr} {od16 an16 : Option Addr} {sl16 : Array (Option Value)} {oc16 kV16 dc16 pm16 cd16 ct16 : Value} {f17 : Addr} {od17 an17 : Option Addr} {sl17 : Array (Option Value)} {oc17 kV17 dc17 pm17 cd17 ct17 : Value} {T17 : Addr} {tc17 : Value} {td17 : Option Addr} {tn17 : Nat} {tsl17 : Array (Option Value)} {tk17_0 : Tok} {f18 : Addr} {od18 an18 : Option Addr} {sl18 : Array (Option Value)} {oc18 kV18 dc18 pm18 cd18 ct18 : Value} {f19 : Addr} {od19 an19 : Option Addr} {sl19 : Array (Option Value)} {oc19 kV19 dc19 pm19 cd19 ct19 : Value} {f20 : Addr} {od20 an20 : Option Addr} {sl20 : Array (Option Value)} {oc20 kV20 dc20 pm20 cd20 ct20 : Value} {f21 : Addr} {od21 an21 : Option Addr} {sl21 : Array (Option Value)} {oc21 kV21 dc21 pm21 cd21 ct21 : Value} {f22 : Addr} {od22 an22 : Option Addr} {sl22 : Array (Option Value)} {oc22 kV22 dc22 pm22 cd22 ct22 : Value} {f23 : Addr} {od23 an23 : Option Addr} {sl23 : Array (Option Value)} {oc23 kV23 dc23 pm23 cd23 ct23 : Value} {f24 : Addr} {od24 an24 : Option Addr} {sl24 : Array (Option Value)} {oc24 kV24 dc24 pm24 cd24 ct24 : Value} {f25 : Addr} {od25 an25 : Option Addr} {sl25 : Array (Option Value)} {oc25 kV25 dc25 pm25 cd25 ct25 : Value} {f26 : Addr} {od26 an26 : Option Addr} {sl26 : Array (Option Value)} {oc26 kV26 dc26 pm26 cd26 ct26 : Value} {f27 : Addr} {od27 an27 : Option Addr} {sl27 : Array (Option Value)} {oc27 kV27 dc27 pm27 cd27 ct27 : Value} {f28 : Addr} {od28 an28 : Option Addr} {sl28 : Array (Option Value)} {oc28 kV28 dc28 pm28 cd28 ct28 : Value} {f29 : Addr} {od29 an29 : Option Addr} {sl29 : Array (Option Value)} {oc29 kV29 dc29 pm29 cd29 ct29 : Value} {f30 : Addr} {od30 an30 : Option Addr} {sl30 : Array (Option Value)} {oc30 kV30 dc30 pm30 cd30 ct30 : Value} {f31 : Addr} {od31 an31 : Option Addr} {sl31 : Array (Option Value)} {oc31 kV31 dc31 pm31 cd31 ct31 : Value} {f32 : Addr} {od32 an32 : Option Addr} {sl32 : Array (Option Value)} {oc32 kV32 dc32 pm32 cd32 ct32 : Value} {T32 : Addr} {tc32 : Value} {td32 : Option Addr} {tn32 : Nat} {tsl32 : Array (Option Value)} {tk32_0 : Tok} {f33 : Addr} {od33 an33 : Option Addr} {sl33 : Array (Option Value)} {oc33 kV33 dc33 pm33 cd33 ct33 : Value} {f34 : Addr} {od34 an34 : Option Addr} {sl34 : Array (Option Value)} {oc34 kV34 dc34 pm34 cd34 ct34 : Value} {f35 : Addr} {od35 an35 : Option Addr} {sl35 : Array (Option Value)} {oc35 kV35 dc35 pm35 cd35 ct35 : Value} {f36 : Addr} {od36 an36 : Option Addr} {sl36 : Array (Option Value)} {oc36 kV36 dc36 pm36 cd36 ct36 : Value} {f37 : Addr} {od37 an37 : Option Addr} {sl37 : Array (Option Value)} {oc37 kV37 dc37 pm37 cd37 ct37 : Value} {f38 : Addr} {od38 an38 : Option Addr} {sl38 : Array (Option Value)} {oc38 kV38 dc38 pm38 cd38 ct38 : Value} {f39 : Addr} {od39 an39 : Option Addr} {sl39 : Array (Option Value)} {oc39 kV39 dc39 pm39 cd39 ct39 : Value} {T39 : Addr} {tc39 : Value} {td39 : Option Addr} {tn39 : Nat} {tsl39 : Array (Option Value)} {tk39_0 : Tok} {f40 : Addr} {od40 an40 : Option Addr} {sl40 : Array (Option Value)} {oc40 kV40 dc40 pm40 cd40 ct40 : Value} {f41 : Addr} {od41 an41 : Option Addr} {sl41 : Array (Option Value)} {oc41 kV41 dc41 pm41 cd41 ct41 : Value} {f42 : Addr} {od42 an42 : Option Addr} {sl42 : Array (Option Value)} {oc42 kV42 dc42 pm42 cd42 ct42 : Value} {f43 : Addr} {od43 an43 : Option Addr} {sl43 : Array (Option Value)} {oc43 kV43 dc43 pm43 cd43 ct43 : Value} {f44 : Addr} {od44 an44 : Option Addr} {sl44 : Array (Option Value)} {oc44 kV44 dc44 pm44 cd44 ct44 : Value} {f45 : Addr} {od45 an45 : Option Addr} {sl45 : Array (Option Value)} {oc45 kV45 dc45 pm45 cd45 ct45 : Value} {f46 : Addr} {od46 an46 : Option Addr} {sl46 : Array (Option Value)} {oc46 kV46 dc46 pm46 cd46 ct46 : Value} {f47 : Addr} {od47 an47 : Option Addr} {sl47 : Array (Option Value)} {oc47 kV47 dc47 pm47 cd47 ct47 : Value} {f48 : Addr} {od48 an48 : Option Addr} {sl48 : Array (Option Value)} {oc48 kV48 dc48 pm48 cd48 ct48 : Value} {f49 : Addr} {od49 an49 : Option Addr} {sl49 : Array (Option Value)} {oc49 kV49 dc49 pm49 cd49 ct49 : Value} {tkc_MOST_TICKS : Tok} {tkc_MOST_NUMBER : Tok} {tkc_MOST_PARTS : Tok} (hfa : mg "law" = some (.ref fa))
    (aC_LampError : PySem.W.nsIn K mainGlobals "LampError" = some (some (.ref C_LampError)))
    (aC_NoCue : PySem.W.nsIn K mainGlobals "NoCue" = some (some (.ref C_NoCue)))
    (aC_Part : PySem.W.nsIn K mainGlobals "Part" = some (some (.ref C_Part)))
    (aC_Cue : PySem.W.nsIn K mainGlobals "Cue" = some (some (.ref C_Cue)))
    (aC_Walk : PySem.W.nsIn K mainGlobals "Walk" = some (some (.ref C_Walk)))
    (aC_Step : PySem.W.nsIn K mainGlobals "Step" = some (some (.ref C_Step)))
    (aC_Run : PySem.W.nsIn K mainGlobals "Run" = some (some (.ref C_Run)))
    (a0 : PySem.W.nsIn K mainGlobals "is_whole" = some (some (.ref f0)))
    (l0 : K.lookup f0 = some ⟨oc0, od0, .func (PySem.W.fnOf "is_whole" "is_whole" (defArgs s_is_whole) (defBody s_is_whole) (defScope s_is_whole) .none kV0 dc0 pm0 an0 cd0 ct0), sl0⟩)
    (c0 : PySem.W.codeIn K cd0 "is_whole" = true)
    (k0 : PySem.W.keepIn K (.ref f0) = true)
    (a1 : PySem.W.nsIn K mainGlobals "is_time" = some (some (.ref f1)))
    (l1 : K.lookup f1 = some ⟨oc1, od1, .func (PySem.W.fnOf "is_time" "is_time" (defArgs s_is_time) (defBody s_is_time) (defScope s_is_time) .none kV1 dc1 pm1 an1 cd1 ct1), sl1⟩)
    (c1 : PySem.W.codeIn K cd1 "is_time" = true)
    (k1 : PySem.W.keepIn K (.ref f1) = true)
    (a2 : PySem.W.nsIn K mainGlobals "is_cue_number" = some (some (.ref f2)))
    (l2 : K.lookup f2 = some ⟨oc2, od2, .func (PySem.W.fnOf "is_cue_number" "is_cue_number" (defArgs s_is_cue_number) (defBody s_is_cue_number) (defScope s_is_cue_number) .none kV2 dc2 pm2 an2 cd2 ct2), sl2⟩)
    (c2 : PySem.W.codeIn K cd2 "is_cue_number" = true)
    (k2 : PySem.W.keepIn K (.ref f2) = true)
    (a3 : PySem.W.nsIn K mainGlobals "has_slots_as_keys" = some (some (.ref f3)))
    (l3 : K.lookup f3 = some ⟨oc3, od3, .func (PySem.W.fnOf "has_slots_as_keys" "has_slots_as_keys" (defArgs s_has_slots_as_keys) (defBody s_has_slots_as_keys) (defScope s_has_slots_as_keys) .none kV3 dc3 pm3 an3 cd3 ct3), sl3⟩)
    (c3 : PySem.W.codeIn K cd3 "has_slots_as_keys" = true)
    (k3 : PySem.W.keepIn K (.ref f3) = true)
    (a4 : PySem.W.findIn K (.ref C_Part) "__init__" = some (some (.ref f4)))
    (i4 : PySem.W.isFn K (.ref f4) = true)
    (l4 : K.lookup f4 = some ⟨oc4, od4, .func (PySem.W.fnOf "__init__" "Part.__init__" (defArgs s_Part_init) (defBody s_Part_init) (defScope s_Part_init) (.ref T4) kV4 dc4 pm4 an4 cd4 ct4), sl4⟩)
    (c4 : PySem.W.codeIn K cd4 "Part.__init__" = true)
    (k4 : PySem.W.keepIn K (.ref f4) = true)
    (t4 : K.lookup T4 = some ⟨tc4, td4, .seq ([.int 0 tk4_0, .int 0 tk4_1, .int 0 tk4_2] : List Value).toArray tn4, tsl4⟩)
    (a5 : PySem.W.findIn K (.ref C_Part) "told_slots" = some (some (.ref f5)))
    (i5 : PySem.W.isFn K (.ref f5) = true)
    (l5 : K.lookup f5 = some ⟨oc5, od5, .func (PySem.W.fnOf "told_slots" "Part.told_slots" (defArgs s_Part_told_slots) (defBody s_Part_told_slots) (defScope s_Part_told_slots) .none kV5 dc5 pm5 an5 cd5 ct5), sl5⟩)
    (c5 : PySem.W.codeIn K cd5 "Part.told_slots" = true)
    (k5 : PySem.W.keepIn K (.ref f5) = true)
    (a6 : PySem.W.nsIn K mainGlobals "is_part_list" = some (some (.ref f6)))
    (l6 : K.lookup f6 = some ⟨oc6, od6, .func (PySem.W.fnOf "is_part_list" "is_part_list" (defArgs s_is_part_list) (defBody s_is_part_list) (defScope s_is_part_list) .none kV6 dc6 pm6 an6 cd6 ct6), sl6⟩)
    (c6 : PySem.W.codeIn K cd6 "is_part_list" = true)
    (k6 : PySem.W.keepIn K (.ref f6) = true)
    (a7 : PySem.W.findIn K (.ref C_Cue) "__init__" = some (some (.ref f7)))
    (i7 : PySem.W.isFn K (.ref f7) = true)
    (l7 : K.lookup f7 = some ⟨oc7, od7, .func (PySem.W.fnOf "__init__" "Cue.__init__" (defArgs s_Cue_init) (defBody s_Cue_init) (defScope s_Cue_init) (.ref T7) kV7 dc7 pm7 an7 cd7 ct7), sl7⟩)
    (c7 : PySem.W.codeIn K cd7 "Cue.__init__" = true)
    (k7 : PySem.W.keepIn K (.ref f7) = true)
    (t7 : K.lookup T7 = some ⟨tc7, td7, .seq ([.bool false, .none] : List Value).toArray tn7, tsl7⟩)
    (a8 : PySem.W.nsIn K mainGlobals "cue_list" = some (some (.ref f8)))
    (l8 : K.lookup f8 = some ⟨oc8, od8, .func (PySem.W.fnOf "cue_list" "cue_list" (defArgs s_cue_list) (defBody s_cue_list) (defScope s_cue_list) .none kV8 dc8 pm8 an8 cd8 ct8), sl8⟩)
    (c8 : PySem.W.codeIn K cd8 "cue_list" = true)
    (k8 : PySem.W.keepIn K (.ref f8) = true)
    (a9 : PySem.W.nsIn K mainGlobals "checked" = some (some (.ref f9)))
    (l9 : K.lookup f9 = some ⟨oc9, od9, .func (PySem.W.fnOf "checked" "checked" (defArgs s_checked) (defBody s_checked) (defScope s_checked) .none kV9 dc9 pm9 an9 cd9 ct9), sl9⟩)
    (c9 : PySem.W.codeIn K cd9 "checked" = true)
    (k9 : PySem.W.keepIn K (.ref f9) = true)
    (a10 : PySem.W.nsIn K mainGlobals "above" = some (some (.ref f10)))
    (l10 : K.lookup f10 = some ⟨oc10, od10, .func (PySem.W.fnOf "above" "above" (defArgs s_above) (defBody s_above) (defScope s_above) .none kV10 dc10 pm10 an10 cd10 ct10), sl10⟩)
    (c10 : PySem.W.codeIn K cd10 "above" = true)
    (k10 : PySem.W.keepIn K (.ref f10) = true)
    (a11 : PySem.W.nsIn K mainGlobals "below" = some (some (.ref f11)))
    (l11 : K.lookup f11 = some ⟨oc11, od11, .func (PySem.W.fnOf "below" "below" (defArgs s_below) (defBody s_below) (defScope s_below) .none kV11 dc11 pm11 an11 cd11 ct11), sl11⟩)
    (c11 : PySem.W.codeIn K cd11 "below" = true)
    (k11 : PySem.W.keepIn K (.ref f11) = true)
    (a12 : PySem.W.nsIn K mainGlobals "cue_at" = some (some (.ref f12)))
    (l12 : K.lookup f12 = some ⟨oc12, od12, .func (PySem.W.fnOf "cue_at" "cue_at" (defArgs s_cue_at) (defBody s_cue_at) (defScope s_cue_at) .none kV12 dc12 pm12 an12 cd12 ct12), sl12⟩)
    (c12 : PySem.W.codeIn K cd12 "cue_at" = true)
    (k12 : PySem.W.keepIn K (.ref f12) = true)
    (a13 : PySem.W.findIn K (.ref C_Walk) "__init__" = some (some (.ref f13)))
    (i13 : PySem.W.isFn K (.ref f13) = true)
    (l13 : K.lookup f13 = some ⟨oc13, od13, .func (PySem.W.fnOf "__init__" "Walk.__init__" (defArgs s_Walk_init) (defBody s_Walk_init) (defScope s_Walk_init) .none kV13 dc13 pm13 an13 cd13 ct13), sl13⟩)
    (c13 : PySem.W.codeIn K cd13 "Walk.__init__" = true)
    (k13 : PySem.W.keepIn K (.ref f13) = true)
    (a14 : PySem.W.findIn K (.ref C_Walk) "clock_top" = some (some (.ref f14)))
    (i14 : PySem.W.isFn K (.ref f14) = true)
    (l14 : K.lookup f14 = some ⟨oc14, od14, .func (PySem.W.fnOf "clock_top" "Walk.clock_top" (defArgs s_Walk_clock_top) (defBody s_Walk_clock_top) (defScope s_Walk_clock_top) (.ref T14) kV14 dc14 pm14 an14 cd14 ct14), sl14⟩)
    (c14 : PySem.W.codeIn K cd14 "Walk.clock_top" = true)
    (k14 : PySem.W.keepIn K (.ref f14) = true)
    (t14 : K.lookup T14 = some ⟨tc14, td14, .seq ([.int 1 tk14_0] : List Value).toArray tn14, tsl14⟩)
    (a15 : PySem.W.findIn K (.ref C_Walk) "note" = some (some (.ref f15)))
    (i15 : PySem.W.isFn K (.ref f15) = true)
    (l15 : K.lookup f15 = some ⟨oc15, od15, .func (PySem.W.fnOf "note" "Walk.note" (defArgs s_Walk_note) (defBody s_Walk_note) (defScope s_Walk_note) .none kV15 dc15 pm15 an15 cd15 ct15), sl15⟩)
    (c15 : PySem.W.codeIn K cd15 "Walk.note" = true)
    (k15 : PySem.W.keepIn K (.ref f15) = true)
    (a16 : PySem.W.findIn K (.ref C_Walk) "arrive" = some (some (.ref f16)))
    (i16 : PySem.W.isFn K (.ref f16) = true)
    (l16 : K.lookup f16 = some ⟨oc16, od16, .func (PySem.W.fnOf "arrive" "Walk.arrive" (defArgs s_Walk_arrive) (defBody s_Walk_arrive) (defScope s_Walk_arrive) .none kV16 dc16 pm16 an16 cd16 ct16), sl16⟩)
    (c16 : PySem.W.codeIn K cd16 "Walk.arrive" = true)
    (k16 : PySem.W.keepIn K (.ref f16) = true)
    (a17 : PySem.W.findIn K (.ref C_Walk) "come_to" = some (some (.ref f17)))
    (i17 : PySem.W.isFn K (.ref f17) = true)
    (l17 : K.lookup f17 = some ⟨oc17, od17, .func (PySem.W.fnOf "come_to" "Walk.come_to" (defArgs s_Walk_come_to) (defBody s_Walk_come_to) (defScope s_Walk_come_to) (.ref T17) kV17 dc17 pm17 an17 cd17 ct17), sl17⟩)
    (c17 : PySem.W.codeIn K cd17 "Walk.come_to" = true)
    (k17 : PySem.W.keepIn K (.ref f17) = true)
    (t17 : K.lookup T17 = some ⟨tc17, td17, .seq ([.int 1 tk17_0] : List Value).toArray tn17, tsl17⟩)
    (a18 : PySem.W.findIn K (.ref C_Walk) "on" = some (some (.ref f18)))
    (i18 : PySem.W.isFn K (.ref f18) = true)
    (l18 : K.lookup f18 = some ⟨oc18, od18, .func (PySem.W.fnOf "on" "Walk.on" (defArgs s_Walk_on) (defBody s_Walk_on) (defScope s_Walk_on) .none kV18 dc18 pm18 an18 cd18 ct18), sl18⟩)
    (c18 : PySem.W.codeIn K cd18 "Walk.on" = true)
    (k18 : PySem.W.keepIn K (.ref f18) = true)
    (a19 : PySem.W.nsIn K mainGlobals "has_cue" = some (some (.ref f19)))
    (l19 : K.lookup f19 = some ⟨oc19, od19, .func (PySem.W.fnOf "has_cue" "has_cue" (defArgs s_has_cue) (defBody s_has_cue) (defScope s_has_cue) .none kV19 dc19 pm19 an19 cd19 ct19), sl19⟩)
    (c19 : PySem.W.codeIn K cd19 "has_cue" = true)
    (k19 : PySem.W.keepIn K (.ref f19) = true)
    (a20 : PySem.W.findIn K (.ref C_Walk) "goto" = some (some (.ref f20)))
    (i20 : PySem.W.isFn K (.ref f20) = true)
    (l20 : K.lookup f20 = some ⟨oc20, od20, .func (PySem.W.fnOf "goto" "Walk.goto" (defArgs s_Walk_goto) (defBody s_Walk_goto) (defScope s_Walk_goto) .none kV20 dc20 pm20 an20 cd20 ct20), sl20⟩)
    (c20 : PySem.W.codeIn K cd20 "Walk.goto" = true)
    (k20 : PySem.W.keepIn K (.ref f20) = true)
    (a21 : PySem.W.findIn K (.ref C_Walk) "go" = some (some (.ref f21)))
    (i21 : PySem.W.isFn K (.ref f21) = true)
    (l21 : K.lookup f21 = some ⟨oc21, od21, .func (PySem.W.fnOf "go" "Walk.go" (defArgs s_Walk_go) (defBody s_Walk_go) (defScope s_Walk_go) .none kV21 dc21 pm21 an21 cd21 ct21), sl21⟩)
    (c21 : PySem.W.codeIn K cd21 "Walk.go" = true)
    (k21 : PySem.W.keepIn K (.ref f21) = true)
    (a22 : PySem.W.findIn K (.ref C_Walk) "back" = some (some (.ref f22)))
    (i22 : PySem.W.isFn K (.ref f22) = true)
    (l22 : K.lookup f22 = some ⟨oc22, od22, .func (PySem.W.fnOf "back" "Walk.back" (defArgs s_Walk_back) (defBody s_Walk_back) (defScope s_Walk_back) .none kV22 dc22 pm22 an22 cd22 ct22), sl22⟩)
    (c22 : PySem.W.codeIn K cd22 "Walk.back" = true)
    (k22 : PySem.W.keepIn K (.ref f22) = true)
    (a23 : PySem.W.findIn K (.ref C_Walk) "change" = some (some (.ref f23)))
    (i23 : PySem.W.isFn K (.ref f23) = true)
    (l23 : K.lookup f23 = some ⟨oc23, od23, .func (PySem.W.fnOf "change" "Walk.change" (defArgs s_Walk_change) (defBody s_Walk_change) (defScope s_Walk_change) .none kV23 dc23 pm23 an23 cd23 ct23), sl23⟩)
    (c23 : PySem.W.codeIn K cd23 "Walk.change" = true)
    (k23 : PySem.W.keepIn K (.ref f23) = true)
    (a24 : PySem.W.nsIn K mainGlobals "put_in" = some (some (.ref f24)))
    (l24 : K.lookup f24 = some ⟨oc24, od24, .func (PySem.W.fnOf "put_in" "put_in" (defArgs s_put_in) (defBody s_put_in) (defScope s_put_in) .none kV24 dc24 pm24 an24 cd24 ct24), sl24⟩)
    (c24 : PySem.W.codeIn K cd24 "put_in" = true)
    (k24 : PySem.W.keepIn K (.ref f24) = true)
    (a25 : PySem.W.nsIn K mainGlobals "carried" = some (some (.ref f25)))
    (l25 : K.lookup f25 = some ⟨oc25, od25, .func (PySem.W.fnOf "carried" "carried" (defArgs s_carried) (defBody s_carried) (defScope s_carried) .none kV25 dc25 pm25 an25 cd25 ct25), sl25⟩)
    (c25 : PySem.W.codeIn K cd25 "carried" = true)
    (k25 : PySem.W.keepIn K (.ref f25) = true)
    (a26 : PySem.W.nsIn K mainGlobals "shown" = some (some (.ref f26)))
    (l26 : K.lookup f26 = some ⟨oc26, od26, .func (PySem.W.fnOf "shown" "shown" (defArgs s_shown) (defBody s_shown) (defScope s_shown) .none kV26 dc26 pm26 an26 cd26 ct26), sl26⟩)
    (c26 : PySem.W.codeIn K cd26 "shown" = true)
    (k26 : PySem.W.keepIn K (.ref f26) = true)
    (a27 : PySem.W.nsIn K mainGlobals "forked" = some (some (.ref f27)))
    (l27 : K.lookup f27 = some ⟨oc27, od27, .func (PySem.W.fnOf "forked" "forked" (defArgs s_forked) (defBody s_forked) (defScope s_forked) .none kV27 dc27 pm27 an27 cd27 ct27), sl27⟩)
    (c27 : PySem.W.codeIn K cd27 "forked" = true)
    (k27 : PySem.W.keepIn K (.ref f27) = true)
    (a28 : PySem.W.findIn K (.ref C_Step) "__init__" = some (some (.ref f28)))
    (i28 : PySem.W.isFn K (.ref f28) = true)
    (l28 : K.lookup f28 = some ⟨oc28, od28, .func (PySem.W.fnOf "__init__" "Step.__init__" (defArgs s_Step_init) (defBody s_Step_init) (defScope s_Step_init) .none kV28 dc28 pm28 an28 cd28 ct28), sl28⟩)
    (c28 : PySem.W.codeIn K cd28 "Step.__init__" = true)
    (k28 : PySem.W.keepIn K (.ref f28) = true)
    (a29 : PySem.W.nsIn K mainGlobals "steps_of" = some (some (.ref f29)))
    (l29 : K.lookup f29 = some ⟨oc29, od29, .func (PySem.W.fnOf "steps_of" "steps_of" (defArgs s_steps_of) (defBody s_steps_of) (defScope s_steps_of) .none kV29 dc29 pm29 an29 cd29 ct29), sl29⟩)
    (c29 : PySem.W.codeIn K cd29 "steps_of" = true)
    (k29 : PySem.W.keepIn K (.ref f29) = true)
    (a30 : PySem.W.nsIn K mainGlobals "tell_rows" = some (some (.ref f30)))
    (l30 : K.lookup f30 = some ⟨oc30, od30, .func (PySem.W.fnOf "tell_rows" "tell_rows" (defArgs s_tell_rows) (defBody s_tell_rows) (defScope s_tell_rows) .none kV30 dc30 pm30 an30 cd30 ct30), sl30⟩)
    (c30 : PySem.W.codeIn K cd30 "tell_rows" = true)
    (k30 : PySem.W.keepIn K (.ref f30) = true)
    (a31 : PySem.W.findIn K (.ref C_Run) "__init__" = some (some (.ref f31)))
    (i31 : PySem.W.isFn K (.ref f31) = true)
    (l31 : K.lookup f31 = some ⟨oc31, od31, .func (PySem.W.fnOf "__init__" "Run.__init__" (defArgs s_Run_init) (defBody s_Run_init) (defScope s_Run_init) .none kV31 dc31 pm31 an31 cd31 ct31), sl31⟩)
    (c31 : PySem.W.codeIn K cd31 "Run.__init__" = true)
    (k31 : PySem.W.keepIn K (.ref f31) = true)
    (a32 : PySem.W.findIn K (.ref C_Run) "walked_to" = some (some (.ref f32)))
    (i32 : PySem.W.isFn K (.ref f32) = true)
    (l32 : K.lookup f32 = some ⟨oc32, od32, .func (PySem.W.fnOf "walked_to" "Run.walked_to" (defArgs s_Run_walked_to) (defBody s_Run_walked_to) (defScope s_Run_walked_to) (.ref T32) kV32 dc32 pm32 an32 cd32 ct32), sl32⟩)
    (c32 : PySem.W.codeIn K cd32 "Run.walked_to" = true)
    (k32 : PySem.W.keepIn K (.ref f32) = true)
    (t32 : K.lookup T32 = some ⟨tc32, td32, .seq ([.int 1 tk32_0] : List Value).toArray tn32, tsl32⟩)
    (a33 : PySem.W.findIn K (.ref C_Run) "take" = some (some (.ref f33)))
    (i33 : PySem.W.isFn K (.ref f33) = true)
    (l33 : K.lookup f33 = some ⟨oc33, od33, .func (PySem.W.fnOf "take" "Run.take" (defArgs s_Run_take) (defBody s_Run_take) (defScope s_Run_take) .none kV33 dc33 pm33 an33 cd33 ct33), sl33⟩)
    (c33 : PySem.W.codeIn K cd33 "Run.take" = true)
    (k33 : PySem.W.keepIn K (.ref f33) = true)
    (a34 : PySem.W.nsIn K mainGlobals "refuse_undone" = some (some (.ref f34)))
    (l34 : K.lookup f34 = some ⟨oc34, od34, .func (PySem.W.fnOf "refuse_undone" "refuse_undone" (defArgs s_refuse_undone) (defBody s_refuse_undone) (defScope s_refuse_undone) .none kV34 dc34 pm34 an34 cd34 ct34), sl34⟩)
    (c34 : PySem.W.codeIn K cd34 "refuse_undone" = true)
    (k34 : PySem.W.keepIn K (.ref f34) = true)
    (a35 : PySem.W.findIn K (.ref C_Run) "go" = some (some (.ref f35)))
    (i35 : PySem.W.isFn K (.ref f35) = true)
    (l35 : K.lookup f35 = some ⟨oc35, od35, .func (PySem.W.fnOf "go" "Run.go" (defArgs s_Run_go) (defBody s_Run_go) (defScope s_Run_go) .none kV35 dc35 pm35 an35 cd35 ct35), sl35⟩)
    (c35 : PySem.W.codeIn K cd35 "Run.go" = true)
    (k35 : PySem.W.keepIn K (.ref f35) = true)
    (a36 : PySem.W.findIn K (.ref C_Run) "back" = some (some (.ref f36)))
    (i36 : PySem.W.isFn K (.ref f36) = true)
    (l36 : K.lookup f36 = some ⟨oc36, od36, .func (PySem.W.fnOf "back" "Run.back" (defArgs s_Run_back) (defBody s_Run_back) (defScope s_Run_back) .none kV36 dc36 pm36 an36 cd36 ct36), sl36⟩)
    (c36 : PySem.W.codeIn K cd36 "Run.back" = true)
    (k36 : PySem.W.keepIn K (.ref f36) = true)
    (a37 : PySem.W.findIn K (.ref C_Run) "goto" = some (some (.ref f37)))
    (i37 : PySem.W.isFn K (.ref f37) = true)
    (l37 : K.lookup f37 = some ⟨oc37, od37, .func (PySem.W.fnOf "goto" "Run.goto" (defArgs s_Run_goto) (defBody s_Run_goto) (defScope s_Run_goto) .none kV37 dc37 pm37 an37 cd37 ct37), sl37⟩)
    (c37 : PySem.W.codeIn K cd37 "Run.goto" = true)
    (k37 : PySem.W.keepIn K (.ref f37) = true)
    (a38 : PySem.W.findIn K (.ref C_Run) "change" = some (some (.ref f38)))
    (i38 : PySem.W.isFn K (.ref f38) = true)
    (l38 : K.lookup f38 = some ⟨oc38, od38, .func (PySem.W.fnOf "change" "Run.change" (defArgs s_Run_change) (defBody s_Run_change) (defScope s_Run_change) .none kV38 dc38 pm38 an38 cd38 ct38), sl38⟩)
    (c38 : PySem.W.codeIn K cd38 "Run.change" = true)
    (k38 : PySem.W.keepIn K (.ref f38) = true)
    (a39 : PySem.W.findIn K (.ref C_Run) "number_at" = some (some (.ref f39)))
    (i39 : PySem.W.isFn K (.ref f39) = true)
    (l39 : K.lookup f39 = some ⟨oc39, od39, .func (PySem.W.fnOf "number_at" "Run.number_at" (defArgs s_Run_number_at) (defBody s_Run_number_at) (defScope s_Run_number_at) (.ref T39) kV39 dc39 pm39 an39 cd39 ct39), sl39⟩)
    (c39 : PySem.W.codeIn K cd39 "Run.number_at" = true)
    (k39 : PySem.W.keepIn K (.ref f39) = true)
    (t39 : K.lookup T39 = some ⟨tc39, td39, .seq ([.int 1 tk39_0] : List Value).toArray tn39, tsl39⟩)
    (a40 : PySem.W.nsIn K mainGlobals "_law_cell_at" = some (some (.ref f40)))
    (l40 : K.lookup f40 = some ⟨oc40, od40, .func (PySem.W.fnOf "_law_cell_at" "_law_cell_at" (defArgs s_law_cell_at) (defBody s_law_cell_at) (defScope s_law_cell_at) .none kV40 dc40 pm40 an40 cd40 ct40), sl40⟩)
    (c40 : PySem.W.codeIn K cd40 "_law_cell_at" = true)
    (k40 : PySem.W.keepIn K (.ref f40) = true)
    (a41 : PySem.W.nsIn K mainGlobals "_law_whole" = some (some (.ref f41)))
    (l41 : K.lookup f41 = some ⟨oc41, od41, .func (PySem.W.fnOf "_law_whole" "_law_whole" (defArgs s_law_whole) (defBody s_law_whole) (defScope s_law_whole) .none kV41 dc41 pm41 an41 cd41 ct41), sl41⟩)
    (c41 : PySem.W.codeIn K cd41 "_law_whole" = true)
    (k41 : PySem.W.keepIn K (.ref f41) = true)
    (a42 : PySem.W.nsIn K mainGlobals "_law_draw" = some (some (.ref f42)))
    (l42 : K.lookup f42 = some ⟨oc42, od42, .func (PySem.W.fnOf "_law_draw" "_law_draw" (defArgs s_law_draw) (defBody s_law_draw) (defScope s_law_draw) .none kV42 dc42 pm42 an42 cd42 ct42), sl42⟩)
    (c42 : PySem.W.codeIn K cd42 "_law_draw" = true)
    (k42 : PySem.W.keepIn K (.ref f42) = true)
    (a43 : PySem.W.nsIn K mainGlobals "_law_rest" = some (some (.ref f43)))
    (l43 : K.lookup f43 = some ⟨oc43, od43, .func (PySem.W.fnOf "_law_rest" "_law_rest" (defArgs s_law_rest) (defBody s_law_rest) (defScope s_law_rest) .none kV43 dc43 pm43 an43 cd43 ct43), sl43⟩)
    (c43 : PySem.W.codeIn K cd43 "_law_rest" = true)
    (k43 : PySem.W.keepIn K (.ref f43) = true)
    (a44 : PySem.W.nsIn K mainGlobals "_law_numbers" = some (some (.ref f44)))
    (l44 : K.lookup f44 = some ⟨oc44, od44, .func (PySem.W.fnOf "_law_numbers" "_law_numbers" (defArgs s_law_numbers) (defBody s_law_numbers) (defScope s_law_numbers) .none kV44 dc44 pm44 an44 cd44 ct44), sl44⟩)
    (c44 : PySem.W.codeIn K cd44 "_law_numbers" = true)
    (k44 : PySem.W.keepIn K (.ref f44) = true)
    (a45 : PySem.W.nsIn K mainGlobals "_law_cues" = some (some (.ref f45)))
    (l45 : K.lookup f45 = some ⟨oc45, od45, .func (PySem.W.fnOf "_law_cues" "_law_cues" (defArgs s_law_cues) (defBody s_law_cues) (defScope s_law_cues) .none kV45 dc45 pm45 an45 cd45 ct45), sl45⟩)
    (c45 : PySem.W.codeIn K cd45 "_law_cues" = true)
    (k45 : PySem.W.keepIn K (.ref f45) = true)
    (a46 : PySem.W.nsIn K mainGlobals "_law_goal" = some (some (.ref f46)))
    (l46 : K.lookup f46 = some ⟨oc46, od46, .func (PySem.W.fnOf "_law_goal" "_law_goal" (defArgs s_law_goal) (defBody s_law_goal) (defScope s_law_goal) .none kV46 dc46 pm46 an46 cd46 ct46), sl46⟩)
    (c46 : PySem.W.codeIn K cd46 "_law_goal" = true)
    (k46 : PySem.W.keepIn K (.ref f46) = true)
    (a47 : PySem.W.nsIn K mainGlobals "_law_deed" = some (some (.ref f47)))
    (l47 : K.lookup f47 = some ⟨oc47, od47, .func (PySem.W.fnOf "_law_deed" "_law_deed" (defArgs s_law_deed) (defBody s_law_deed) (defScope s_law_deed) .none kV47 dc47 pm47 an47 cd47 ct47), sl47⟩)
    (c47 : PySem.W.codeIn K cd47 "_law_deed" = true)
    (k47 : PySem.W.keepIn K (.ref f47) = true)
    (a48 : PySem.W.nsIn K mainGlobals "_law_stands" = some (some (.ref f48)))
    (l48 : K.lookup f48 = some ⟨oc48, od48, .func (PySem.W.fnOf "_law_stands" "_law_stands" (defArgs s_law_stands) (defBody s_law_stands) (defScope s_law_stands) .none kV48 dc48 pm48 an48 cd48 ct48), sl48⟩)
    (c48 : PySem.W.codeIn K cd48 "_law_stands" = true)
    (k48 : PySem.W.keepIn K (.ref f48) = true)
    (a49 : PySem.W.nsIn K mainGlobals "law" = some (some (.ref f49)))
    (l49 : K.lookup f49 = some ⟨oc49, od49, .func (PySem.W.fnOf "law" "law" (defArgs s_law) (defBody s_law) (defScope s_law) .none kV49 dc49 pm49 an49 cd49 ct49), sl49⟩)
    (c49 : PySem.W.codeIn K cd49 "law" = true)
    (k49 : PySem.W.keepIn K (.ref f49) = true)
    (pg_Part : PySem.W.plainGet K C_Part Str.empty = true)
    (hd_Part : PySem.W.hasDictIn K C_Part = true)
    (po_Part : PySem.W.plainOver K C_Part = true)
    (sa_Part : PySem.W.findIn K (.ref C_Part) "__setattr__" = some (some (.builtin "object.__setattr__")))
    (mk_Part : PySem.W.makesIn K C_Part = true)
    (kc_Part : PySem.W.keepIn K (.ref C_Part) = true)
    (na_Part_tells : PySem.W.findIn K (.ref C_Part) "tells" = some none)
    (na_Part_alone : PySem.W.findIn K (.ref C_Part) "alone" = some none)
    (na_Part_rise : PySem.W.findIn K (.ref C_Part) "rise" = some none)
    (na_Part_fall : PySem.W.findIn K (.ref C_Part) "fall" = some none)
    (na_Part_wait : PySem.W.findIn K (.ref C_Part) "wait" = some none)
    (yc_Part : PySem.W.findIn K (.ref C_Part) "__class__" = some (some (.builtin "object.__class__")))
    (ym_Part : PySem.W.mroIn K C_Part (.type "object") = some true)
    (xk_own_Part : PySem.W.kitOne K (.ref C_Part) (.ref C_Part) = some true)
    (pg_Cue : PySem.W.plainGet K C_Cue Str.empty = true)
    (hd_Cue : PySem.W.hasDictIn K C_Cue = true)
    (po_Cue : PySem.W.plainOver K C_Cue = true)
    (sa_Cue : PySem.W.findIn K (.ref C_Cue) "__setattr__" = some (some (.builtin "object.__setattr__")))
    (mk_Cue : PySem.W.makesIn K C_Cue = true)
    (kc_Cue : PySem.W.keepIn K (.ref C_Cue) = true)
    (na_Cue_number : PySem.W.findIn K (.ref C_Cue) "number" = some none)
    (na_Cue_parts : PySem.W.findIn K (.ref C_Cue) "parts" = some none)
    (na_Cue_stops : PySem.W.findIn K (.ref C_Cue) "stops" = some none)
    (na_Cue_follow : PySem.W.findIn K (.ref C_Cue) "follow" = some none)
    (yc_Cue : PySem.W.findIn K (.ref C_Cue) "__class__" = some (some (.builtin "object.__class__")))
    (ym_Cue : PySem.W.mroIn K C_Cue (.type "object") = some true)
    (xk_own_Cue : PySem.W.kitOne K (.ref C_Cue) (.ref C_Cue) = some true)
    (pg_Walk : PySem.W.plainGet K C_Walk Str.empty = true)
    (hd_Walk : PySem.W.hasDictIn K C_Walk = true)
    (po_Walk : PySem.W.plainOver K C_Walk = true)
    (sa_Walk : PySem.W.findIn K (.ref C_Walk) "__setattr__" = some (some (.builtin "object.__setattr__")))
    (mk_Walk : PySem.W.makesIn K C_Walk = true)
    (kc_Walk : PySem.W.keepIn K (.ref C_Walk) = true)
    (na_Walk_cues : PySem.W.findIn K (.ref C_Walk) "cues" = some none)
    (na_Walk_number : PySem.W.findIn K (.ref C_Walk) "number" = some none)
    (na_Walk_lag : PySem.W.findIn K (.ref C_Walk) "lag" = some none)
    (na_Walk_held : PySem.W.findIn K (.ref C_Walk) "held" = some none)
    (na_Walk_due : PySem.W.findIn K (.ref C_Walk) "due" = some none)
    (na_Walk_trail : PySem.W.findIn K (.ref C_Walk) "trail" = some none)
    (pg_Step : PySem.W.plainGet K C_Step Str.empty = true)
    (hd_Step : PySem.W.hasDictIn K C_Step = true)
    (po_Step : PySem.W.plainOver K C_Step = true)
    (sa_Step : PySem.W.findIn K (.ref C_Step) "__setattr__" = some (some (.builtin "object.__setattr__")))
    (mk_Step : PySem.W.makesIn K C_Step = true)
    (kc_Step : PySem.W.keepIn K (.ref C_Step) = true)
    (na_Step_clock : PySem.W.findIn K (.ref C_Step) "clock" = some none)
    (na_Step_look : PySem.W.findIn K (.ref C_Step) "look" = some none)
    (na_Step_cue : PySem.W.findIn K (.ref C_Step) "cue" = some none)
    (na_Step_word : PySem.W.findIn K (.ref C_Step) "word" = some none)
    (pg_Run : PySem.W.plainGet K C_Run Str.empty = true)
    (hd_Run : PySem.W.hasDictIn K C_Run = true)
    (po_Run : PySem.W.plainOver K C_Run = true)
    (sa_Run : PySem.W.findIn K (.ref C_Run) "__setattr__" = some (some (.builtin "object.__setattr__")))
    (mk_Run : PySem.W.makesIn K C_Run = true)
    (kc_Run : PySem.W.keepIn K (.ref C_Run) = true)
    (na_Run_walk : PySem.W.findIn K (.ref C_Run) "walk" = some none)
    (na_Run_courses : PySem.W.findIn K (.ref C_Run) "courses" = some none)
    (na_Run_last : PySem.W.findIn K (.ref C_Run) "last" = some none)
    (x_NoCue : PySem.W.excIn K C_NoCue veMro "ValueError.__new__" = true)
    (xc0_NoCue : PySem.W.findIn K (.ref C_NoCue) "__getattribute__" = some (some (.builtin "BaseException.__getattribute__")))
    (xc1_NoCue : PySem.W.findIn K (.ref C_NoCue) "__getattr__" = some none)
    (xc2_NoCue : PySem.W.findIn K (.ref C_NoCue) "__class__" = some (some (.builtin "object.__class__")))
    (xc3_NoCue : PySem.W.mroIn K C_NoCue (.type "object") = some true)
    (xc4_NoCue : PySem.W.mroIn K C_NoCue (.type "BaseException") = some true)
    (xm_NoCue : PySem.W.exmOne K (.ref C_NoCue) (.ref C_LampError) = some true)
    (xv_NoCue : PySem.W.kitOne K (.ref C_NoCue) (.type "ValueError") = some true)
    (xe_NoCue_NoCue : PySem.W.exmOne K (.ref C_NoCue) (.ref C_NoCue) = some true)
    (xk_NoCue_LampError : PySem.W.kitOne K (.ref C_NoCue) (.ref C_LampError) = some true)
    (xk_NoCue_NoCue : PySem.W.kitOne K (.ref C_NoCue) (.ref C_NoCue) = some true)
    (xg_get : PySem.W.specialIn K (.builtin "object.__class__") "__get__" = some (some (.builtin "getset_descriptor.__get__")))
    (xg_set : PySem.W.takesIn K (.builtin "object.__class__") = some true)
    (z_isinstance : PySem.W.nsIn K mainGlobals "isinstance" = some none)
    (z_int : PySem.W.nsIn K mainGlobals "int" = some none)
    (z_bool : PySem.W.nsIn K mainGlobals "bool" = some none)
    (z_str : PySem.W.nsIn K mainGlobals "str" = some none)
    (z_tuple : PySem.W.nsIn K mainGlobals "tuple" = some none)
    (z_list : PySem.W.nsIn K mainGlobals "list" = some none)
    (z_dict : PySem.W.nsIn K mainGlobals "dict" = some none)
    (z_set : PySem.W.nsIn K mainGlobals "set" = some none)
    (z_sorted : PySem.W.nsIn K mainGlobals "sorted" = some none)
    (z_len : PySem.W.nsIn K mainGlobals "len" = some none)
    (z_all : PySem.W.nsIn K mainGlobals "all" = some none)
    (z_any : PySem.W.nsIn K mainGlobals "any" = some none)
    (z_min : PySem.W.nsIn K mainGlobals "min" = some none)
    (z_max : PySem.W.nsIn K mainGlobals "max" = some none)
    (z_range : PySem.W.nsIn K mainGlobals "range" = some none)
    (z_sum : PySem.W.nsIn K mainGlobals "sum" = some none)
    (gc_MOST_TICKS : PySem.W.nsIn K mainGlobals "MOST_TICKS" = some (some (.int 1000000000 tkc_MOST_TICKS)))
    (gc_MOST_NUMBER : PySem.W.nsIn K mainGlobals "MOST_NUMBER" = some (some (.int 1000000000 tkc_MOST_NUMBER)))
    (gc_MOST_PARTS : PySem.W.nsIn K mainGlobals "MOST_PARTS" = some (some (.int 9 tkc_MOST_PARTS))) :
    ∃ fd : FuncData, (∀ (s : Shared) (v : Value), BindsTo s fd ⟨[v], []⟩ [("_law_script", v)]) ∧ ∀ base : Heap, K.In base → base.Ns mainGlobals mg → FnOk l.prog w K mg base (CXE l.prog w) 11 fa fd ["_law_script"] (spLaw K) := by
  have e := hfa.symm.trans (PySem.W.mg_of X G a49)
  cases e
  have F0 := fun_mk (st := s_is_whole) l0 c0 k0
  have bb0 := F0.binds (ps := ["thing"]) fun _ _ _ _ _ _ us hl => match us, hl with | [_], _ => rfl
  have F1 := fun_mk (st := s_is_time) l1 c1 k1
  have bb1 := F1.binds (ps := ["thing"]) fun _ _ _ _ _ _ us hl => match us, hl with | [_], _ => rfl
  have F2 := fun_mk (st := s_is_cue_number) l2 c2 k2
  have bb2 := F2.binds (ps := ["thing"]) fun _ _ _ _ _ _ us hl => match us, hl with | [_], _ => rfl
  have F3 := fun_mk (st := s_has_slots_as_keys) l3 c3 k3
  have bb3 := F3.binds (ps := ["thing"]) fun _ _ _ _ _ _ us hl => match us, hl with | [_], _ => rfl
  have F4 := fund_mk (st := s_Part_init) l4 c4 k4
  have bb4 : Binds K _ ["self", "tells", "alone", "rise", "fall", "wait"] [] := FunD.binds (ds := []) 6 rfl F4 t4 fun _ _ _ _ _ _ us hl => match us, hl with | [_, _, _, _, _, _], _ => ⟨_, rfl, rfl⟩
  have bd4 : Binds K _ ["self", "tells", "alone", "rise", "fall", "wait"] [.int 0 tk4_0, .int 0 tk4_1, .int 0 tk4_2] := FunD.binds 3 rfl F4 t4 fun _ _ _ _ _ _ us hl => match us, hl with | [_, _, _], _ => ⟨_, rfl, rfl⟩
  have kb4 : KBinds K _ ["self", "tells", "alone", "rise", "fall", "wait"] ["rise", "fall", "wait"] (gAB 3 3) (gAB 3 3) := FunD.kbinds 3 3 (by decide) F4 t4 (fun _ _ _ _ _ _ us ws h1 h2 => match us, h1, ws, h2 with | [_, _, _], _, [_, _, _], _ => ⟨_, rfl, rfl⟩)
  have F5 := fun_mk (st := s_Part_told_slots) l5 c5 k5
  have bb5 := F5.binds (ps := ["self"]) fun _ _ _ _ _ _ us hl => match us, hl with | [_], _ => rfl
  have F6 := fun_mk (st := s_is_part_list) l6 c6 k6
  have bb6 := F6.binds (ps := ["thing"]) fun _ _ _ _ _ _ us hl => match us, hl with | [_], _ => rfl
  have F7 := fund_mk (st := s_Cue_init) l7 c7 k7
  have bb7 : Binds K _ ["self", "number", "parts", "stops", "follow"] [] := FunD.binds (ds := []) 5 rfl F7 t7 fun _ _ _ _ _ _ us hl => match us, hl with | [_, _, _, _, _], _ => ⟨_, rfl, rfl⟩
  have bd7 : Binds K _ ["self", "number", "parts", "stops", "follow"] [.bool false, .none] := FunD.binds 3 rfl F7 t7 fun _ _ _ _ _ _ us hl => match us, hl with | [_, _, _], _ => ⟨_, rfl, rfl⟩
  have kb7 : KBinds K _ ["self", "number", "parts", "stops", "follow"] ["stops", "follow"] (gAB 3 2) (gAB 3 2) := FunD.kbinds 3 2 (by decide) F7 t7 (fun _ _ _ _ _ _ us ws h1 h2 => match us, h1, ws, h2 with | [_, _, _], _, [_, _], _ => ⟨_, rfl, rfl⟩)
  have F8 := fun_mk (st := s_cue_list) l8 c8 k8
  have bb8 := F8.binds (ps := ["cues"]) fun _ _ _ _ _ _ us hl => match us, hl with | [_], _ => rfl
  have F9 := fun_mk (st := s_checked) l9 c9 k9
  have bb9 := F9.binds (ps := ["cues", "number"]) fun _ _ _ _ _ _ us hl => match us, hl with | [_, _], _ => rfl
  have F10 := fun_mk (st := s_above) l10 c10 k10
  have bb10 := F10.binds (ps := ["cues", "number"]) fun _ _ _ _ _ _ us hl => match us, hl with | [_, _], _ => rfl
  have F11 := fun_mk (st := s_below) l11 c11 k11
  have bb11 := F11.binds (ps := ["cues", "number"]) fun _ _ _ _ _ _ us hl => match us, hl with | [_, _], _ => rfl
  have F12 := fun_mk (st := s_cue_at) l12 c12 k12
  have bb12 := F12.binds (ps := ["cues", "number"]) fun _ _ _ _ _ _ us hl => match us, hl with | [_, _], _ => rfl
  have F13 := fun_mk (st := s_Walk_init) l13 c13 k13
  have bb13 := F13.binds (ps := ["self", "cues"]) fun _ _ _ _ _ _ us hl => match us, hl with | [_, _], _ => rfl
  have F14 := fund_mk (st := s_Walk_clock_top) l14 c14 k14
  have bb14 : Binds K _ ["self", "top", "bottom"] [] := FunD.binds (ds := []) 3 rfl F14 t14 fun _ _ _ _ _ _ us hl => match us, hl with | [_, _, _], _ => ⟨_, rfl, rfl⟩
  have bd14 : Binds K _ ["self", "top", "bottom"] [.int 1 tk14_0] := FunD.binds 2 rfl F14 t14 fun _ _ _ _ _ _ us hl => match us, hl with | [_, _], _ => ⟨_, rfl, rfl⟩
  have kb14 : KBinds K _ ["self", "top", "bottom"] ["bottom"] (gAB 2 1) (gAB 2 1) := FunD.kbinds 2 1 (by decide) F14 t14 (fun _ _ _ _ _ _ us ws h1 h2 => match us, h1, ws, h2 with | [_, _], _, [_], _ => ⟨_, rfl, rfl⟩)
  have F15 := fun_mk (st := s_Walk_note) l15 c15 k15
  have bb15 := F15.binds (ps := ["self", "clock", "word"]) fun _ _ _ _ _ _ us hl => match us, hl with | [_, _, _], _ => rfl
  have F16 := fun_mk (st := s_Walk_arrive) l16 c16 k16
  have bb16 := F16.binds (ps := ["self", "clock", "number"]) fun _ _ _ _ _ _ us hl => match us, hl with | [_, _, _], _ => rfl
  have F17 := fund_mk (st := s_Walk_come_to) l17 c17 k17
  have bb17 : Binds K _ ["self", "top", "bottom"] [] := FunD.binds (ds := []) 3 rfl F17 t17 fun _ _ _ _ _ _ us hl => match us, hl with | [_, _, _], _ => ⟨_, rfl, rfl⟩
  have bd17 : Binds K _ ["self", "top", "bottom"] [.int 1 tk17_0] := FunD.binds 2 rfl F17 t17 fun _ _ _ _ _ _ us hl => match us, hl with | [_, _], _ => ⟨_, rfl, rfl⟩
  have kb17 : KBinds K _ ["self", "top", "bottom"] ["bottom"] (gAB 2 1) (gAB 2 1) := FunD.kbinds 2 1 (by decide) F17 t17 (fun _ _ _ _ _ _ us ws h1 h2 => match us, h1, ws, h2 with | [_, _], _, [_], _ => ⟨_, rfl, rfl⟩)
  have F18 := fun_mk (st := s_Walk_on) l18 c18 k18
  have bb18 := F18.binds (ps := ["self", "tick"]) fun _ _ _ _ _ _ us hl => match us, hl with | [_, _], _ => rfl
  have F19 := fun_mk (st := s_has_cue) l19 c19 k19
  have bb19 := F19.binds (ps := ["cues", "number"]) fun _ _ _ _ _ _ us hl => match us, hl with | [_, _], _ => rfl
  have F20 := fun_mk (st := s_Walk_goto) l20 c20 k20
  have bb20 := F20.binds (ps := ["self", "tick", "number"]) fun _ _ _ _ _ _ us hl => match us, hl with | [_, _, _], _ => rfl
  have F21 := fun_mk (st := s_Walk_go) l21 c21 k21
  have bb21 := F21.binds (ps := ["self", "tick"]) fun _ _ _ _ _ _ us hl => match us, hl with | [_, _], _ => rfl
  have F22 := fun_mk (st := s_Walk_back) l22 c22 k22
  have bb22 := F22.binds (ps := ["self", "tick"]) fun _ _ _ _ _ _ us hl => match us, hl with | [_, _], _ => rfl
  have F23 := fun_mk (st := s_Walk_change) l23 c23 k23
  have bb23 := F23.binds (ps := ["self", "tick", "cues"]) fun _ _ _ _ _ _ us hl => match us, hl with | [_, _, _], _ => rfl
  have F24 := fun_mk (st := s_put_in) l24 c24 k24
  have bb24 := F24.binds (ps := ["look", "told"]) fun _ _ _ _ _ _ us hl => match us, hl with | [_, _], _ => rfl
  have F25 := fun_mk (st := s_carried) l25 c25 k25
  have bb25 := F25.binds (ps := ["cues", "number"]) fun _ _ _ _ _ _ us hl => match us, hl with | [_, _], _ => rfl
  have F26 := fun_mk (st := s_shown) l26 c26 k26
  have bb26 := F26.binds (ps := ["cues", "number"]) fun _ _ _ _ _ _ us hl => match us, hl with | [_, _], _ => rfl
  have F27 := fun_mk (st := s_forked) l27 c27 k27
  have bb27 := F27.binds (ps := ["walk"]) fun _ _ _ _ _ _ us hl => match us, hl with | [_], _ => rfl
  have F28 := fun_mk (st := s_Step_init) l28 c28 k28
  have bb28 := F28.binds (ps := ["self", "row", "look"]) fun _ _ _ _ _ _ us hl => match us, hl with | [_, _, _], _ => rfl
  have F29 := fun_mk (st := s_steps_of) l29 c29 k29
  have bb29 := F29.binds (ps := ["rows"]) fun _ _ _ _ _ _ us hl => match us, hl with | [_], _ => rfl
  have F30 := fun_mk (st := s_tell_rows) l30 c30 k30
  have bb30 := F30.binds (ps := ["courses", "rows"]) fun _ _ _ _ _ _ us hl => match us, hl with | [_, _], _ => rfl
  have F31 := fun_mk (st := s_Run_init) l31 c31 k31
  have bb31 := F31.binds (ps := ["self", "cues"]) fun _ _ _ _ _ _ us hl => match us, hl with | [_, _], _ => rfl
  have F32 := fund_mk (st := s_Run_walked_to) l32 c32 k32
  have bb32 : Binds K _ ["self", "top", "bottom"] [] := FunD.binds (ds := []) 3 rfl F32 t32 fun _ _ _ _ _ _ us hl => match us, hl with | [_, _, _], _ => ⟨_, rfl, rfl⟩
  have bd32 : Binds K _ ["self", "top", "bottom"] [.int 1 tk32_0] := FunD.binds 2 rfl F32 t32 fun _ _ _ _ _ _ us hl => match us, hl with | [_, _], _ => ⟨_, rfl, rfl⟩
  have kb32 : KBinds K _ ["self", "top", "bottom"] ["bottom"] (gAB 2 1) (gAB 2 1) := FunD.kbinds 2 1 (by decide) F32 t32 (fun _ _ _ _ _ _ us ws h1 h2 => match us, h1, ws, h2 with | [_, _], _, [_], _ => ⟨_, rfl, rfl⟩)
  have F33 := fun_mk (st := s_Run_take) l33 c33 k33
  have bb33 := F33.binds (ps := ["self", "tick", "walk"]) fun _ _ _ _ _ _ us hl => match us, hl with | [_, _, _], _ => rfl
  have F34 := fun_mk (st := s_refuse_undone) l34 c34 k34
  have bb34 := F34.binds (ps := ["done"]) fun _ _ _ _ _ _ us hl => match us, hl with | [_], _ => rfl
  have F35 := fun_mk (st := s_Run_go) l35 c35 k35
  have bb35 := F35.binds (ps := ["self", "tick"]) fun _ _ _ _ _ _ us hl => match us, hl with | [_, _], _ => rfl
  have F36 := fun_mk (st := s_Run_back) l36 c36 k36
  have bb36 := F36.binds (ps := ["self", "tick"]) fun _ _ _ _ _ _ us hl => match us, hl with | [_, _], _ => rfl
  have F37 := fun_mk (st := s_Run_goto) l37 c37 k37
  have bb37 := F37.binds (ps := ["self", "tick", "number"]) fun _ _ _ _ _ _ us hl => match us, hl with | [_, _, _], _ => rfl
  have F38 := fun_mk (st := s_Run_change) l38 c38 k38
  have bb38 := F38.binds (ps := ["self", "tick", "cues"]) fun _ _ _ _ _ _ us hl => match us, hl with | [_, _, _], _ => rfl
  have F39 := fund_mk (st := s_Run_number_at) l39 c39 k39
  have bb39 : Binds K _ ["self", "top", "bottom"] [] := FunD.binds (ds := []) 3 rfl F39 t39 fun _ _ _ _ _ _ us hl => match us, hl with | [_, _, _], _ => ⟨_, rfl, rfl⟩
  have bd39 : Binds K _ ["self", "top", "bottom"] [.int 1 tk39_0] := FunD.binds 2 rfl F39 t39 fun _ _ _ _ _ _ us hl => match us, hl with | [_, _], _ => ⟨_, rfl, rfl⟩
  have kb39 : KBinds K _ ["self", "top", "bottom"] ["bottom"] (gAB 2 1) (gAB 2 1) := FunD.kbinds 2 1 (by decide) F39 t39 (fun _ _ _ _ _ _ us ws h1 h2 => match us, h1, ws, h2 with | [_, _], _, [_], _ => ⟨_, rfl, rfl⟩)
  have F40 := fun_mk (st := s_law_cell_at) l40 c40 k40
  have bb40 := F40.binds (ps := ["_law_script", "_law_k"]) fun _ _ _ _ _ _ us hl => match us, hl with | [_, _], _ => rfl
  have F41 := fun_mk (st := s_law_whole) l41 c41 k41
  have bb41 := F41.binds (ps := ["_law_found"]) fun _ _ _ _ _ _ us hl => match us, hl with | [_], _ => rfl
  have F42 := fun_mk (st := s_law_draw) l42 c42 k42
  have bb42 := F42.binds (ps := ["_law_cell", "_law_place"]) fun _ _ _ _ _ _ us hl => match us, hl with | [_, _], _ => rfl
  have F43 := fun_mk (st := s_law_rest) l43 c43 k43
  have bb43 := F43.binds (ps := ["_law_cell"]) fun _ _ _ _ _ _ us hl => match us, hl with | [_], _ => rfl
  have F44 := fun_mk (st := s_law_numbers) l44 c44 k44
  have bb44 := F44.binds (ps := ["_law_cell", "_law_wide"]) fun _ _ _ _ _ _ us hl => match us, hl with | [_, _], _ => rfl
  have F45 := fun_mk (st := s_law_cues) l45 c45 k45
  have bb45 := F45.binds (ps := ["_law_numbers_here"]) fun _ _ _ _ _ _ us hl => match us, hl with | [_], _ => rfl
  have F46 := fun_mk (st := s_law_goal) l46 c46 k46
  have bb46 := F46.binds (ps := ["_law_numbers_here", "_law_here", "_law_word", "_law_to"]) fun _ _ _ _ _ _ us hl => match us, hl with | [_, _, _, _], _ => rfl
  have F47 := fun_mk (st := s_law_deed) l47 c47 k47
  have bb47 := F47.binds (ps := ["_law_run", "_law_word", "_law_tick", "_law_to"]) fun _ _ _ _ _ _ us hl => match us, hl with | [_, _, _, _], _ => rfl
  have F48 := fun_mk (st := s_law_stands) l48 c48 k48
  have bb48 := F48.binds (ps := ["_law_run", "_law_tick", "_law_here"]) fun _ _ _ _ _ _ us hl => match us, hl with | [_, _, _], _ => rfl
  have F49 := fun_mk (st := s_law) l49 c49 k49
  have bb49 := F49.binds (ps := ["_law_script"]) fun _ _ _ _ _ _ us hl => match us, hl with | [_], _ => rfl
  have T : Txt K mg ⟨f0, _, f1, _, f2, _, f3, _, f4, _, T4, [.int 0 tk4_0, .int 0 tk4_1, .int 0 tk4_2], f5, _, f6, _, f7, _, T7, [.bool false, .none], f8, _, f9, _, f10, _, f11, _, f12, _, f13, _, f14, _, T14, [.int 1 tk14_0], f15, _, f16, _, f17, _, T17, [.int 1 tk17_0], f18, _, f19, _, f20, _, f21, _, f22, _, f23, _, f24, _, f25, _, f26, _, f27, _, f28, _, f29, _, f30, _, f31, _, f32, _, T32, [.int 1 tk32_0], f33, _, f34, _, f35, _, f36, _, f37, _, f38, _, f39, _, T39, [.int 1 tk39_0], f40, _, f41, _, f42, _, f43, _, f44, _, f45, _, f46, _, f47, _, f48, _, fa, _, C_Part, C_Cue, C_Walk, C_Step, C_Run, C_LampError, C_NoCue, ()⟩ := ⟨F0, bb0, PySem.W.mg_of X G a0, F1, bb1, PySem.W.mg_of X G a1, F2, bb2, PySem.W.mg_of X G a2, F3, bb3, PySem.W.mg_of X G a3, F4, bb4, bd4, (.cons ⟨_, rfl⟩ (.cons ⟨_, rfl⟩ (.cons ⟨_, rfl⟩ (.nil)))), kb4, ⟨mk_Part, a4, i4, kc_Part⟩, F5, bb5, ⟨a5, i5, k5⟩, F6, bb6, PySem.W.mg_of X G a6, F7, bb7, bd7, (.cons rfl (.cons rfl (.nil))), kb7, ⟨mk_Cue, a7, i7, kc_Cue⟩, F8, bb8, PySem.W.mg_of X G a8, F9, bb9, PySem.W.mg_of X G a9, F10, bb10, PySem.W.mg_of X G a10, F11, bb11, PySem.W.mg_of X G a11, F12, bb12, PySem.W.mg_of X G a12, F13, bb13, ⟨mk_Walk, a13, i13, kc_Walk⟩, F14, bb14, bd14, (.cons ⟨_, rfl⟩ (.nil)), kb14, ⟨a14, i14, k14⟩, F15, bb15, ⟨a15, i15, k15⟩, F16, bb16, ⟨a16, i16, k16⟩, F17, bb17, bd17, (.cons ⟨_, rfl⟩ (.nil)), kb17, ⟨a17, i17, k17⟩, F18, bb18, ⟨a18, i18, k18⟩, F19, bb19, PySem.W.mg_of X G a19, F20, bb20, ⟨a20, i20, k20⟩, F21, bb21, ⟨a21, i21, k21⟩, F22, bb22, ⟨a22, i22, k22⟩, F23, bb23, ⟨a23, i23, k23⟩, F24, bb24, PySem.W.mg_of X G a24, F25, bb25, PySem.W.mg_of X G a25, F26, bb26, PySem.W.mg_of X G a26, F27, bb27, PySem.W.mg_of X G a27, F28, bb28, ⟨mk_Step, a28, i28, kc_Step⟩, F29, bb29, PySem.W.mg_of X G a29, F30, bb30, PySem.W.mg_of X G a30, F31, bb31, ⟨mk_Run, a31, i31, kc_Run⟩, F32, bb32, bd32, (.cons ⟨_, rfl⟩ (.nil)), kb32, ⟨a32, i32, k32⟩, F33, bb33, ⟨a33, i33, k33⟩, F34, bb34, PySem.W.mg_of X G a34, F35, bb35, ⟨a35, i35, k35⟩, F36, bb36, ⟨a36, i36, k36⟩, F37, bb37, ⟨a37, i37, k37⟩, F38, bb38, ⟨a38, i38, k38⟩, F39, bb39, bd39, (.cons ⟨_, rfl⟩ (.nil)), kb39, ⟨a39, i39, k39⟩, F40, bb40, PySem.W.mg_of X G a40, F41, bb41, PySem.W.mg_of X G a41, F42, bb42, PySem.W.mg_of X G a42, F43, bb43, PySem.W.mg_of X G a43, F44, bb44, PySem.W.mg_of X G a44, F45, bb45, PySem.W.mg_of X G a45, F46, bb46, PySem.W.mg_of X G a46, F47, bb47, PySem.W.mg_of X G a47, F48, bb48, PySem.W.mg_of X G a48, F49, bb49, PySem.W.mg_of X G a49, ⟨pg_Part, hd_Part, po_Part, sa_Part⟩, PySem.W.mg_of X G aC_Part, na_Part_tells, na_Part_alone, na_Part_rise, na_Part_fall, na_Part_wait, (fun H a dx fs e => .ins e ⟨pg_Part, hd_Part, po_Part, sa_Part⟩ yc_Part xg_get xg_set ym_Part), xk_own_Part, ⟨pg_Cue, hd_Cue, po_Cue, sa_Cue⟩, PySem.W.mg_of X G aC_Cue, na_Cue_number, na_Cue_parts, na_Cue_stops, na_Cue_follow, (fun H a dx fs e => .ins e ⟨pg_Cue, hd_Cue, po_Cue, sa_Cue⟩ yc_Cue xg_get xg_set ym_Cue), xk_own_Cue, ⟨pg_Walk, hd_Walk, po_Walk, sa_Walk⟩, PySem.W.mg_of X G aC_Walk, na_Walk_cues, na_Walk_number, na_Walk_lag, na_Walk_held, na_Walk_due, na_Walk_trail, ⟨pg_Step, hd_Step, po_Step, sa_Step⟩, PySem.W.mg_of X G aC_Step, na_Step_clock, na_Step_look, na_Step_cue, na_Step_word, ⟨pg_Run, hd_Run, po_Run, sa_Run⟩, PySem.W.mg_of X G aC_Run, na_Run_walk, na_Run_courses, na_Run_last, PySem.W.mg_of X G aC_LampError, PySem.W.mg_of X G aC_NoCue, x_NoCue, ⟨xc0_NoCue, xc1_NoCue, ic_of xc3_NoCue, xc2_NoCue, xg_get, xg_set, xc3_NoCue, xc4_NoCue⟩, xm_NoCue, xv_NoCue, xe_NoCue_NoCue, xk_NoCue_LampError, xk_NoCue_NoCue, PySem.W.mg_none_of X G z_isinstance, PySem.W.mg_none_of X G z_int, PySem.W.mg_none_of X G z_bool, PySem.W.mg_none_of X G z_str, PySem.W.mg_none_of X G z_tuple, PySem.W.mg_none_of X G z_list, PySem.W.mg_none_of X G z_dict, PySem.W.mg_none_of X G z_set, PySem.W.mg_none_of X G z_sorted, PySem.W.mg_none_of X G z_len, PySem.W.mg_none_of X G z_all, PySem.W.mg_none_of X G z_any, PySem.W.mg_none_of X G z_min, PySem.W.mg_none_of X G z_max, PySem.W.mg_none_of X G z_range, PySem.W.mg_none_of X G z_sum, ⟨_, PySem.W.mg_of X G gc_MOST_TICKS⟩, ⟨_, PySem.W.mg_of X G gc_MOST_NUMBER⟩, ⟨_, PySem.W.mg_of X G gc_MOST_PARTS⟩⟩
  refine ⟨_, fun s v => ?_, fun base _ _ => ok_law T⟩
  exact .of_eq rfl
theorem walk {l : PySem.W.OpenLaw} {q : Program} {loose : List Str} {XP : (Str → Option Value) → Heap → Prop} {YP : World → Heap → Prop} {d : DefRec} {K : Params → PySem.W.Frag} (hn : l.most = some 63) (hdf : d.params.defaults = [])
    (hY : ∀ (w : World) (h : Heap), YP w h → (K w.params).In h)
    (F : ∀ (w : World) (mg : Str → Option Value) (fa : Addr) (h : Heap), (K w.params).In h → h.Ns mainGlobals mg → mg d.name = some (.ref fa) →
      ∃ fd : FuncData, (∀ (s : Shared) (u : Value), BindsTo s fd ⟨[u], []⟩ [("_law_script", u)]) ∧ ∀ base : Heap, (K w.params).In base → base.Ns mainGlobals mg → FnOk l.prog w (K w.params) mg base (CXE l.prog w) 11 fa fd ["_law_script"] (spLaw (K w.params))) :
    PySem.W.WalkO q loose XP YP l.row.toRowW d [] (fun f vs => PySem.call f vs) :=
  L2.walk_of (n := 63) (k := 11) (x := "_law_script") (CX := fun w => CXE l.prog w) (sp := fun w => spLaw (K w.params)) hn (by decide) hdf ⟨rfl, by decide, by decide⟩ hY F (fun _ _ a ns hl _ hS => ⟨a, ns, rfl, hS, hl, fun _ => rfl⟩) fun _ _ _ _ _ ⟨_, _, _, _, _, _, _, _, _, _, _, _, _, _, _, z⟩ => z
end My
namespace PySem.W.Fast
abbrev tw90343872475197607 : Type := PySem.Params
theorem te90343872475197607 : PySem.Params = tw90343872475197607 := rfl
end PySem.W.Fast
open PySem PySem.W PyProof.Rows
set_option maxRecDepth 100000 in
set_option maxHeartbeats 0 in
theorem PySem.Challenge.cw_lampcues_k41_numbers_come_to_holds : PySem.Challenge.rw_lampcues_k41_numbers_come_to.Holds := by
  w_on; o_law; k_head; (case hw => w_witness2)
  k_fill
  refine My.walk (l := PySem.Challenge.rw_lampcues_k41_numbers_come_to) rfl rfl (fun w h Y => PySem.W.kIn_of Y) ?F
  case F =>
    intro w mg fa h KX G hmg
    refine' My.all_mk KX G hmg ?aC_LampError ?aC_NoCue ?aC_Part ?aC_Cue ?aC_Walk ?aC_Step ?aC_Run ?a0 ?l0 ?c0 ?k0 ?a1 ?l1 ?c1 ?k1 ?a2 ?l2 ?c2 ?k2 ?a3 ?l3 ?c3 ?k3 ?a4 ?i4 ?l4 ?c4 ?k4 ?t4 ?a5 ?i5 ?l5 ?c5 ?k5 ?a6 ?l6 ?c6 ?k6 ?a7 ?i7 ?l7 ?c7 ?k7 ?t7 ?a8 ?l8 ?c8 ?k8 ?a9 ?l9 ?c9 ?k9 ?a10 ?l10 ?c10 ?k10 ?a11 ?l11 ?c11 ?k11 ?a12 ?l12 ?c12 ?k12 ?a13 ?i13 ?l13 ?c13 ?k13 ?a14 ?i14 ?l14 ?c14 ?k14 ?t14 ?a15 ?i15 ?l15 ?c15 ?k15 ?a16 ?i16 ?l16 ?c16 ?k16 ?a17 ?i17 ?l17 ?c17 ?k17 ?t17 ?a18 ?i18 ?l18 ?c18 ?k18 ?a19 ?l19 ?c19 ?k19 ?a20 ?i20 ?l20 ?c20 ?k20 ?a21 ?i21 ?l21 ?c21 ?k21 ?a22 ?i22 ?l22 ?c22 ?k22 ?a23 ?i23 ?l23 ?c23 ?k23 ?a24 ?l24 ?c24 ?k24 ?a25 ?l25 ?c25 ?k25 ?a26 ?l26 ?c26 ?k26 ?a27 ?l27 ?c27 ?k27 ?a28 ?i28 ?l28 ?c28 ?k28 ?a29 ?l29 ?c29 ?k29 ?a30 ?l30 ?c30 ?k30 ?a31 ?i31 ?l31 ?c31 ?k31 ?a32 ?i32 ?l32 ?c32 ?k32 ?t32 ?a33 ?i33 ?l33 ?c33 ?k33 ?a34 ?l34 ?c34 ?k34 ?a35 ?i35 ?l35 ?c35 ?k35 ?a36 ?i36 ?l36 ?c36 ?k36 ?a37 ?i37 ?l37 ?c37 ?k37 ?a38 ?i38 ?l38 ?c38 ?k38 ?a39 ?i39 ?l39 ?c39 ?k39 ?t39 ?a40 ?l40 ?c40 ?k40 ?a41 ?l41 ?c41 ?k41 ?a42 ?l42 ?c42 ?k42 ?a43 ?l43 ?c43 ?k43 ?a44 ?l44 ?c44 ?k44 ?a45 ?l45 ?c45 ?k45 ?a46 ?l46 ?c46 ?k46 ?a47 ?l47 ?c47 ?k47 ?a48 ?l48 ?c48 ?k48 ?a49 ?l49 ?c49 ?k49 ?pg_Part ?hd_Part ?po_Part ?sa_Part ?mk_Part ?kc_Part ?na_Part_tells ?na_Part_alone ?na_Part_rise ?na_Part_fall ?na_Part_wait ?yc_Part ?ym_Part ?xk_own_Part ?pg_Cue ?hd_Cue ?po_Cue ?sa_Cue ?mk_Cue ?kc_Cue ?na_Cue_number ?na_Cue_parts ?na_Cue_stops ?na_Cue_follow ?yc_Cue ?ym_Cue ?xk_own_Cue ?pg_Walk ?hd_Walk ?po_Walk ?sa_Walk ?mk_Walk ?kc_Walk ?na_Walk_cues ?na_Walk_number ?na_Walk_lag ?na_Walk_held ?na_Walk_due ?na_Walk_trail ?pg_Step ?hd_Step ?po_Step ?sa_Step ?mk_Step ?kc_Step ?na_Step_clock ?na_Step_look ?na_Step_cue ?na_Step_word ?pg_Run ?hd_Run ?po_Run ?sa_Run ?mk_Run ?kc_Run ?na_Run_walk ?na_Run_courses ?na_Run_last ?x_NoCue ?xc0_NoCue ?xc1_NoCue ?xc2_NoCue ?xc3_NoCue ?xc4_NoCue ?xm_NoCue ?xv_NoCue ?xe_NoCue_NoCue ?xk_NoCue_LampError ?xk_NoCue_NoCue ?xg_get ?xg_set ?z_isinstance ?z_int ?z_bool ?z_str ?z_tuple ?z_list ?z_dict ?z_set ?z_sorted ?z_len ?z_all ?z_any ?z_min ?z_max ?z_range ?z_sum ?gc_MOST_TICKS ?gc_MOST_NUMBER ?gc_MOST_PARTS
    (case aC_LampError => k_is)
    (case aC_NoCue => k_is)
    (case aC_Part => k_is)
    (case aC_Cue => k_is)
    (case aC_Walk => k_is)
    (case aC_Step => k_is)
    (case aC_Run => k_is)
    (case a0 => k_is)
    (case l0 => k_is)
    (case c0 => k_is)
    (case k0 => k_is)
    (case a1 => k_is)
    (case l1 => k_is)
    (case c1 => k_is)
    (case k1 => k_is)
    (case a2 => k_is)
    (case l2 => k_is)
    (case c2 => k_is)
    (case k2 => k_is)
    (case a3 => k_is)
    (case l3 => k_is)
    (case c3 => k_is)
    (case k3 => k_is)
    (case a4 => k_is)
    (case i4 => k_is)
    (case l4 => k_is)
    (case c4 => k_is)
    (case k4 => k_is)
    (case t4 => k_is)
    (case a5 => k_is)
    (case i5 => k_is)
    (case l5 => k_is)
    (case c5 => k_is)
    (case k5 => k_is)
    (case a6 => k_is)
    (case l6 => k_is)
    (case c6 => k_is)
    (case k6 => k_is)
    (case a7 => k_is)
    (case i7 => k_is)
    (case l7 => k_is)
    (case c7 => k_is)
    (case k7 => k_is)
    (case t7 => k_is)
    (case a8 => k_is)
    (case l8 => k_is)
    (case c8 => k_is)
    (case k8 => k_is)
    (case a9 => k_is)
    (case l9 => k_is)
    (case c9 => k_is)
    (case k9 => k_is)
    (case a10 => k_is)
    (case l10 => k_is)
    (case c10 => k_is)
    (case k10 => k_is)
    (case a11 => k_is)
    (case l11 => k_is)
    (case c11 => k_is)
    (case k11 => k_is)
    (case a12 => k_is)
    (case l12 => k_is)
    (case c12 => k_is)
    (case k12 => k_is)
    (case a13 => k_is)
    (case i13 => k_is)
    (case l13 => k_is)
    (case c13 => k_is)
    (case k13 => k_is)
    (case a14 => k_is)
    (case i14 => k_is)
    (case l14 => k_is)
    (case c14 => k_is)
    (case k14 => k_is)
    (case t14 => k_is)
    (case a15 => k_is)
    (case i15 => k_is)
    (case l15 => k_is)
    (case c15 => k_is)
    (case k15 => k_is)
    (case a16 => k_is)
    (case i16 => k_is)
    (case l16 => k_is)
    (case c16 => k_is)
    (case k16 => k_is)
    (case a17 => k_is)
    (case i17 => k_is)
    (case l17 => k_is)
    (case c17 => k_is)
    (case k17 => k_is)
    (case t17 => k_is)
    (case a18 => k_is)
    (case i18 => k_is)
    (case l18 => k_is)
    (case c18 => k_is)
    (case k18 => k_is)
    (case a19 => k_is)
    (case l19 => k_is)
    (case c19 => k_is)
    (case k19 => k_is)
    (case a20 => k_is)
    (case i20 => k_is)
    (case l20 => k_is)
    (case c20 => k_is)
    (case k20 => k_is)
    (case a21 => k_is)
    (case i21 => k_is)
    (case l21 => k_is)
    (case c21 => k_is)
    (case k21 => k_is)
    (case a22 => k_is)
    (case i22 => k_is)
    (case l22 => k_is)
    (case c22 => k_is)
    (case k22 => k_is)
    (case a23 => k_is)
    (case i23 => k_is)
    (case l23 => k_is)
    (case c23 => k_is)
    (case k23 => k_is)
    (case a24 => k_is)
    (case l24 => k_is)
    (case c24 => k_is)
    (case k24 => k_is)
    (case a25 => k_is)
    (case l25 => k_is)
    (case c25 => k_is)
    (case k25 => k_is)
    (case a26 => k_is)
    (case l26 => k_is)
    (case c26 => k_is)
    (case k26 => k_is)
    (case a27 => k_is)
    (case l27 => k_is)
    (case c27 => k_is)
    (case k27 => k_is)
    (case a28 => k_is)
    (case i28 => k_is)
    (case l28 => k_is)
    (case c28 => k_is)
    (case k28 => k_is)
    (case a29 => k_is)
    (case l29 => k_is)
    (case c29 => k_is)
    (case k29 => k_is)
    (case a30 => k_is)
    (case l30 => k_is)
    (case c30 => k_is)
    (case k30 => k_is)
    (case a31 => k_is)
    (case i31 => k_is)
    (case l31 => k_is)
    (case c31 => k_is)
    (case k31 => k_is)
    (case a32 => k_is)
    (case i32 => k_is)
    (case l32 => k_is)
    (case c32 => k_is)
    (case k32 => k_is)
    (case t32 => k_is)
    (case a33 => k_is)
    (case i33 => k_is)
    (case l33 => k_is)
    (case c33 => k_is)
    (case k33 => k_is)
    (case a34 => k_is)
    (case l34 => k_is)
    (case c34 => k_is)
    (case k34 => k_is)
    (case a35 => k_is)
    (case i35 => k_is)
    (case l35 => k_is)
    (case c35 => k_is)
    (case k35 => k_is)
    (case a36 => k_is)
    (case i36 => k_is)
    (case l36 => k_is)
    (case c36 => k_is)
    (case k36 => k_is)
    (case a37 => k_is)
    (case i37 => k_is)
    (case l37 => k_is)
    (case c37 => k_is)
    (case k37 => k_is)
    (case a38 => k_is)
    (case i38 => k_is)
    (case l38 => k_is)
    (case c38 => k_is)
    (case k38 => k_is)
    (case a39 => k_is)
    (case i39 => k_is)
    (case l39 => k_is)
    (case c39 => k_is)
    (case k39 => k_is)
    (case t39 => k_is)
    (case a40 => k_is)
    (case l40 => k_is)
    (case c40 => k_is)
    (case k40 => k_is)
    (case a41 => k_is)
    (case l41 => k_is)
    (case c41 => k_is)
    (case k41 => k_is)
    (case a42 => k_is)
    (case l42 => k_is)
    (case c42 => k_is)
    (case k42 => k_is)
    (case a43 => k_is)
    (case l43 => k_is)
    (case c43 => k_is)
    (case k43 => k_is)
    (case a44 => k_is)
    (case l44 => k_is)
    (case c44 => k_is)
    (case k44 => k_is)
    (case a45 => k_is)
    (case l45 => k_is)
    (case c45 => k_is)
    (case k45 => k_is)
    (case a46 => k_is)
    (case l46 => k_is)
    (case c46 => k_is)
    (case k46 => k_is)
    (case a47 => k_is)
    (case l47 => k_is)
    (case c47 => k_is)
    (case k47 => k_is)
    (case a48 => k_is)
    (case l48 => k_is)
    (case c48 => k_is)
    (case k48 => k_is)
    (case a49 => k_is)
    (case l49 => k_is)
    (case c49 => k_is)
    (case k49 => k_is)
    (case pg_Part => k_is)
    (case hd_Part => k_is)
    (case po_Part => k_is)
    (case sa_Part => k_is)
    (case mk_Part => k_is)
    (case kc_Part => k_is)
    (case na_Part_tells => k_is)
    (case na_Part_alone => k_is)
    (case na_Part_rise => k_is)
    (case na_Part_fall => k_is)
    (case na_Part_wait => k_is)
    (case yc_Part => k_is)
    (case ym_Part => k_is)
    (case xk_own_Part => kit_is)
    (case pg_Cue => k_is)
    (case hd_Cue => k_is)
    (case po_Cue => k_is)
    (case sa_Cue => k_is)
    (case mk_Cue => k_is)
    (case kc_Cue => k_is)
    (case na_Cue_number => k_is)
    (case na_Cue_parts => k_is)
    (case na_Cue_stops => k_is)
    (case na_Cue_follow => k_is)
    (case yc_Cue => k_is)
    (case ym_Cue => k_is)
    (case xk_own_Cue => kit_is)
    (case pg_Walk => k_is)
    (case hd_Walk => k_is)
    (case po_Walk => k_is)
    (case sa_Walk => k_is)
    (case mk_Walk => k_is)
    (case kc_Walk => k_is)
    (case na_Walk_cues => k_is)
    (case na_Walk_number => k_is)
    (case na_Walk_lag => k_is)
    (case na_Walk_held => k_is)
    (case na_Walk_due => k_is)
    (case na_Walk_trail => k_is)
    (case pg_Step => k_is)
    (case hd_Step => k_is)
    (case po_Step => k_is)
    (case sa_Step => k_is)
    (case mk_Step => k_is)
    (case kc_Step => k_is)
    (case na_Step_clock => k_is)
    (case na_Step_look => k_is)
    (case na_Step_cue => k_is)
    (case na_Step_word => k_is)
    (case pg_Run => k_is)
    (case hd_Run => k_is)
    (case po_Run => k_is)
    (case sa_Run => k_is)
    (case mk_Run => k_is)
    (case kc_Run => k_is)
    (case na_Run_walk => k_is)
    (case na_Run_courses => k_is)
    (case na_Run_last => k_is)
    (case x_NoCue => k_exc)
    (case xc0_NoCue => k_is)
    (case xc1_NoCue => k_is)
    (case xc2_NoCue => k_is)
    (case xc3_NoCue => k_is)
    (case xc4_NoCue => k_is)
    (case xm_NoCue => kts_exm)
    (case xv_NoCue => kit_is)
    (case xe_NoCue_NoCue => kts_exm)
    (case xk_NoCue_LampError => kit_is)
    (case xk_NoCue_NoCue => kit_is)
    (case xg_get => k_is)
    (case xg_set => k_is)
    (case z_isinstance => k_is)
    (case z_int => k_is)
    (case z_bool => k_is)
    (case z_str => k_is)
    (case z_tuple => k_is)
    (case z_list => k_is)
    (case z_dict => k_is)
    (case z_set => k_is)
    (case z_sorted => k_is)
    (case z_len => k_is)
    (case z_all => k_is)
    (case z_any => k_is)
    (case z_min => k_is)
    (case z_max => k_is)
    (case z_range => k_is)
    (case z_sum => k_is)
    (case gc_MOST_TICKS => k_is)
    (case gc_MOST_NUMBER => k_is)
    (case gc_MOST_PARTS => k_is)
