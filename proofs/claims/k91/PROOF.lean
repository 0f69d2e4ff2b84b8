import PyProof.Rows.All
import Wide.All
import OpenK.AllK
import Wide.FinOn
import Lean
import PyProof.EqAt
import PyProof.EqKinds
import PyProof.TupleCall
import PySem.SetTable
import PyProof.SetKind
import PyProof.SetNew
import PyProof.SetRoads
import PyProof.TupleKey
import PyProof.IsRules
import PyProof.Rows.SetFrom
import PyProof.CollectWalk
import PyProof.CollectIter
import KE.KSortTup
import PyProof.DictWalks
import PyProof.DictItems
import KE.KDictOf
import KE.KMinKey
import PyProof.Rows.CallKwBuiltin
import PyProof.Rows.Range3
import PyProof.ZipIter
import KE.KEqSeq
import PyProof.NeKinds
import KE.KRevIter
import PyProof.Rows.SortStr
import PyProof.Rows.SortWalk
import PyProof.EnumFor
import PyProof.EnumMake
import PyProof.AutoListH
import PyProof.Rows.StrSplitAre
import PyProof.Rows.StrJoin2
import PyProof.Rows.StrNews
import PyProof.StrCalls
import PyProof.StrLawsTight
import PyProof.Rows.StrItems
import PyProof.StrLawsFirst
import PyProof.StrLawsLast
import PyProof.StrLawsChain
import PyProof.StrCalls6
import PyProof.MeetsStr3
import PyProof.Rows.CatFin
import PySem.Challenge.RW_lampcues_k91_rows_read
set_option Elab.async false
set_option linter.all false
-- CHANGE: your row's module here, as the last of these rows
set_option maxRecDepth 100000
namespace L2
open PySem PySem.Spec PyProof.Rows
abbrev Key := Sum Int Str
def keyIs : Key → Value → Bool
  | .inl k, v => Value.isInt k v
  | .inr x, v => Value.isStrOf x v
def keyH (w : World) : Key → Int
  | .inl k => hashInt k
  | .inr x => hashStr w x
theorem keyIs_shape : ∀ {k : Key} {v : Value}, keyIs k v = true → (∃ i t, k = Sum.inl i ∧ v = Value.int i t) ∨ (∃ x t, k = Sum.inr x ∧ v = Value.str x t)
  | .inl i, v, h => by
    obtain ⟨t, e⟩ := Value.isInt_shape (k := i) (v := v) h
    exact .inl ⟨i, t, rfl, e⟩
  | .inr x, v, h => by
    obtain ⟨t, e⟩ := Value.isStrOf_shape (x := x) (v := v) h
    exact .inr ⟨x, t, rfl, e⟩
theorem keyIs_int (i : Int) (t : Tok) : keyIs (.inl i) (.int i t) = true := by simp [keyIs, Value.isInt]
theorem keyIs_str (x : Str) (t : Tok) : keyIs (.inr x) (.str x t) = true := by simp [keyIs, Value.isStrOf]
theorem key_ll (a b : Int) : decide ((Sum.inl a : Key) = Sum.inl b) = (a == b) := by
  by_cases e : a = b
  · subst e; simp
  · have h : ¬ (Sum.inl a : Key) = Sum.inl b := fun q => e (Sum.inl.inj q)
    rw [decide_eq_false h]
    exact (beq_eq_false_iff_ne.mpr e).symm
theorem key_rr (a b : Str) : decide ((Sum.inr a : Key) = Sum.inr b) = decide (a = b) := by
  by_cases e : a = b
  · subst e; simp
  · have h : ¬ (Sum.inr a : Key) = Sum.inr b := fun q => e (Sum.inr.inj q)
    rw [decide_eq_false h, decide_eq_false e]
theorem key_lr (a : Int) (b : Str) : decide ((Sum.inl a : Key) = Sum.inr b) = false := decide_eq_false (fun q => nomatch q)
theorem key_rl (a : Str) (b : Int) : decide ((Sum.inr a : Key) = Sum.inl b) = false := decide_eq_false (fun q => nomatch q)
def mixKind (prog : Program) (w : World) : PySem.KeyKind prog w Key where
  is := keyIs
  hash := keyH w
  inj := fun v a b ha hb => by
    rcases keyIs_shape ha with ⟨i, t, rfl, rfl⟩ | ⟨x, t, rfl, rfl⟩
    · rcases keyIs_shape hb with ⟨j, u, rfl, e⟩ | ⟨y, u, rfl, e⟩
      · injection e with e1 _; rw [e1]
      · exact nomatch e
    · rcases keyIs_shape hb with ⟨j, u, rfl, e⟩ | ⟨y, u, rfl, e⟩
      · exact nomatch e
      · injection e with e1 _; rw [e1]
  byValue := fun k v h => by
    rcases keyIs_shape h with ⟨i, t, rfl, rfl⟩ | ⟨x, t, rfl, rfl⟩ <;> rfl
  pyHash := fun hv h => by
    rcases keyIs_shape hv with ⟨i, t, rfl, rfl⟩ | ⟨x, t, rfl, rfl⟩
    · exact wpAny_pyHash_int h
    · exact wpAny_pyHash_str h
  eqBool := fun hu hv h => by
    rcases keyIs_shape hu with ⟨i, t, rfl, rfl⟩ | ⟨x, t, rfl, rfl⟩
    · rcases keyIs_shape hv with ⟨j, u, rfl, rfl⟩ | ⟨y, u, rfl, rfl⟩
      · rw [key_ll] at h; exact wpAny_eqBool_int h
      · rw [key_lr] at h; exact SeqAt.EqAt.int_str i t y u _ _ _ _ h
    · rcases keyIs_shape hv with ⟨j, u, rfl, rfl⟩ | ⟨y, u, rfl, rfl⟩
      · rw [key_rl] at h; exact SeqAt.EqAt.str_int x t j u _ _ _ _ h
      · rw [key_rr] at h; exact wpAny_eqBool_str h
  «strs» := fun k x t v h => by
    rcases keyIs_shape h with ⟨i, u, rfl, e⟩ | ⟨y, u, rfl, e⟩
    · exact nomatch e
    · injection e with e1 _
      subst e1
      cases v <;> rfl
theorem mixKind_int (prog : Program) (w : World) (i : Int) (t : Tok) : (mixKind prog w).is (.inl i) (.int i t) = true := keyIs_int i t
theorem mixKind_str (prog : Program) (w : World) (x : Str) (t : Tok) : (mixKind prog w).is (.inr x) (.str x t) = true := keyIs_str x t
end L2
namespace L2
open PySem PySem.Spec PyProof.Rows
inductive V where
  | non | bl (b : Bool) | int (i : Int) | str (x : Str) | byt (b : Array UInt8) | flt (b : UInt64) | ref (a : Addr) | ty (n : String)
  deriving DecidableEq
def RelV : V → Value → Prop
  | .non, u => u = Value.none
  | .bl b, u => u = Value.bool b
  | .int i, u => ∃ t, u = Value.int i t
  | .str x, u => ∃ t, u = Value.str x t
  | .byt b, u => ∃ t, u = Value.bytes b t
  | .flt b, u => ∃ t, u = Value.float b t
  | .ref a, u => u = Value.ref a
  | .ty n, u => u = Value.type n
abbrev Vals : List V → List Value → Prop := Paired RelV
theorem Vals.length {xs : List V} {us : List Value} (r : Vals xs us) : xs.length = us.length := Paired.length r
theorem Vals.get : ∀ {xs : List V} {us : List Value} {i : Nat} {x : V}, Vals xs us → xs[i]? = some x → ∃ u, us[i]? = some u ∧ RelV x u
  | _, _, _, _, .nil, e => by simp at e
  | _, _, 0, _, .cons r _, e => by simp at e; subst e; exact ⟨_, rfl, r⟩
  | _, _, i + 1, x, .cons _ t, e => by
    obtain ⟨u, h1, h2⟩ := Vals.get (i := i) (x := x) t (by simpa using e)
    exact ⟨u, by simpa using h1, h2⟩
theorem Vals.set {x : V} {u : Value} (r : RelV x u) : ∀ {xs : List V} {us : List Value} (i : Nat), Vals xs us → Vals (xs.set i x) (us.set i u)
  | _, _, _, .nil => .nil
  | _, _, 0, .cons _ t => .cons r t
  | _, _, i + 1, .cons q t => .cons q (Vals.set r i t)
theorem Vals.append : ∀ {xs ys : List V} {us ws : List Value}, Vals xs us → Vals ys ws → Vals (xs ++ ys) (us ++ ws)
  | _, _, _, _, .nil, s => s
  | _, _, _, _, .cons r t, s => .cons r (Vals.append t s)
theorem Vals.take : ∀ {xs : List V} {us : List Value} (n : Nat), Vals xs us → Vals (xs.take n) (us.take n)
  | _, _, 0, _ => .nil
  | _, _, _ + 1, .nil => .nil
  | _, _, n + 1, .cons r t => .cons r (Vals.take n t)
theorem Vals.drop : ∀ {xs : List V} {us : List Value} (n : Nat), Vals xs us → Vals (xs.drop n) (us.drop n)
  | _, _, 0, r => r
  | _, _, _ + 1, .nil => .nil
  | _, _, n + 1, .cons _ t => Vals.drop n t
theorem Vals.none_of : ∀ {xs : List V} {us : List Value} {i : Nat}, Vals xs us → xs[i]? = none → us[i]? = none := fun {xs us i} r e => by
  have h1 := r.length
  have h2 : xs.length ≤ i := List.getElem?_eq_none_iff.mp e
  exact List.getElem?_eq_none_iff.mpr (by omega)
def RelO : Option V → Option Value → Prop
  | some v, some u => RelV v u
  | none, none => True
  | _, _ => False
def KV {κ : Type} : List (κ × V) → List (κ × Value) → Prop := Paired fun (p : κ × V) (q : κ × Value) => p.1 = q.1 ∧ RelV p.2 q.2
def kV : Key → V
  | .inl i => .int i
  | .inr x => .str x
inductive HO where
  | lst (xs : List V)
  | tup (xs : List V)
  | dK (kvs : List (Key × V)) | dT (kvs : List (List Key × V))
  | set (S : Int → Bool) (n : Nat)
  | ins (C dx : Addr) (fs : List (Str × V))
  | own (x : Addr)
  | xd (fs : List (Str × V))
  | met (f x : Addr)
  | rng (lo hi : Int)
  | frz (o : Obj) (u : HO)
  | tbl (ps : Array Value)
  | ext (φ : Heap → Prop)
abbrev Hp := Addr → Option HO
def upd (H : Hp) (a : Addr) (o : HO) : Hp := fun b => if b = a then some o else H b
theorem upd_same {H : Hp} {a : Addr} {o : HO} : upd H a o a = some o := by unfold upd; rw [if_pos rfl]
theorem upd_ne {H : Hp} {a b : Addr} {o : HO} (h : b ≠ a) : upd H a o b = H b := by unfold upd; rw [if_neg h]
theorem ne_of {H : Hp} {a b : Addr} {o u : HO} (h : H a = some o) (h' : H b = some u) (d : o ≠ u) : a ≠ b := by
  intro e; subst e; rw [h] at h'; exact d (Option.some.inj h')
theorem ne_of_none {H : Hp} {a b : Addr} {o : HO} (h : H a = some o) (h' : H b = none) : a ≠ b := by
  intro e; subst e; rw [h] at h'; cases h'
section
variable (P : Program) (w : World)
def ObjOk (H : Hp) (h : Heap) (a : Addr) : HO → Prop
  | .lst xs => xs.length ≤ sizeLine ∧ ∃ (its : List Value) (n : Nat), Vals xs its ∧ h.get? a = some { cls := .type "list", data := .seq its.toArray n }
  | .tup xs => xs.length ≤ sizeLine ∧ ∃ its : List Value, Vals xs its ∧ IsTup h a its.toArray
  | .dK kvs => kvs.length ≤ sizeLine ∧ (a == sysModules) = false ∧ ∃ vs, KV kvs vs ∧ h.DictOf (mixKind P w) a vs
  | .dT kvs => kvs.length ≤ sizeLine ∧ (a == sysModules) = false ∧ ∃ xs : List (List Key × Addr × Value),
      Paired (fun (p : List Key × V) (q : List Key × Addr × Value) => p.1 = q.1 ∧ H q.2.1 = some (.tup (p.1.map kV)) ∧ RelV p.2 q.2.2) kvs xs ∧
      ∃ o es ep, h.get? a = some o ∧ o.ExactDict ∧ o.data = .dict es ep ∧ es.toList = xs.map (entryOfKey (tupleKind (mixKind P w))) ∧ (xs.map (·.1)).Nodup
  | .set S n => h.SetOf (intKind P w) a S n
  | .ins C dx fs => H dx = some (.own a) ∧ fs.length ≤ 1000 ∧ dx ≠ a ∧ h.get? a = some (PySem.W.instObj C dx) ∧
      ∃ mA, h.Ns1 dx mA ∧ (∀ f, RelO (fs.lookup f) (mA f)) ∧ PySem.Within mA (fs.map (·.1))
  | .own _ => ∃ o, h.get? a = some o
  | .xd fs => ∃ mA, h.Ns1 a mA ∧ ∀ f, RelO (fs.lookup f) (mA f)
  | .rng lo hi => ∃ t u v, h.get? a = some { cls := .type "range", data := .fields #[.int lo t, .int hi u, .int 1 v] }
  | .frz o u => h.get? a = some o ∧ ObjOk H h a u
  | .tbl ps => h.get? a = some { cls := .none, data := .fields ps }
  | .met f x => h.get? a = some (PySem.W.methodObj (.ref f) (.ref x))
  | .ext φ => φ h ∧ (∃ o, h.get? a = some o) ∧ ∀ h1 h2 : Heap, φ h1 → (∀ o, h1.get? a = some o → h2.get? a = some o) → φ h2
def HOk (H : Hp) (h : Heap) : Prop := ∀ a o, H a = some o → ObjOk P w H h a o
end
section
variable {P : Program} {w : World} {H H' : Hp} {h h' : Heap} {a : Addr} {o : HO}
theorem ObjOk.lt (x : ObjOk P w H h a o) : a < h.objs.size := by
  cases o with
  | lst xs => obtain ⟨_, _, _, _, e⟩ := x; exact Heap.lt_size e
  | tup xs => obtain ⟨_, _, _, p⟩ := x; exact p.lt
  | dK kvs => obtain ⟨_, _, _, _, o, _, _, e, _⟩ := x; exact Heap.lt_size e
  | dT kvs => obtain ⟨_, _, _, _, o, _, _, e, _⟩ := x; exact Heap.lt_size e
  | set S n => obtain ⟨o, _, _, _, e, _⟩ := x; exact Heap.lt_size e
  | ins C dx fs => obtain ⟨_, _, _, e, _⟩ := x; exact Heap.lt_size e
  | own y => obtain ⟨_, e⟩ := x; exact Heap.lt_size e
  | xd fs => obtain ⟨_, ⟨_, _, _, e, _⟩, _⟩ := x; exact Heap.lt_size e
  | rng lo hi => obtain ⟨_, _, _, e⟩ := x; exact Heap.lt_size e
  | frz ob u => obtain ⟨e, _⟩ := x; exact Heap.lt_size e
  | tbl ps => exact Heap.lt_size (show h.get? a = some _ from x)
  | met f y => exact Heap.lt_size (show h.get? a = some _ from x)
  | ext φ => obtain ⟨_, ⟨_, e⟩, _⟩ := x; exact Heap.lt_size e
theorem Paired.mapP {α β : Type} {F G : α → β → Prop} : ∀ {l₁ : List α} {l₂ : List β}, Paired F l₁ l₂ → (∀ a b, F a b → G a b) → Paired G l₁ l₂
  | _, _, .nil, _ => .nil
  | _, _, .cons r t, f => .cons (f _ _ r) (Paired.mapP t f)
theorem ObjOk.stay (x : ObjOk P w H h a o) (k : ∀ b u, (b = a ∨ H b = some (.own a)) → h.get? b = some u → h'.get? b = some u)
    (ho : ∀ b, H b = some (.own a) → H' b = some (.own a)) (ht : ∀ b xs, H b = some (.tup xs) → H' b = some (.tup xs)) : ObjOk P w H' h' a o := by
  induction o with
  | lst xs => obtain ⟨z, its, n, r, e⟩ := x; exact ⟨z, its, n, r, k _ _ (.inl rfl) e⟩
  | tup xs => obtain ⟨z, its, r, ob, e, c⟩ := x; exact ⟨z, its, r, ob, k _ _ (.inl rfl) e, c⟩
  | dK kvs => obtain ⟨z, y, vs, r, ob, es, ep, e, c⟩ := x; exact ⟨z, y, vs, r, ob, es, ep, k _ _ (.inl rfl) e, c⟩
  | dT kvs =>
    obtain ⟨z, y, xs, r, ob, es, ep, e, c⟩ := x
    exact ⟨z, y, xs, Paired.mapP r fun p q z => ⟨z.1, ht _ _ z.2.1, z.2.2⟩, ob, es, ep, k _ _ (.inl rfl) e, c⟩
  | set S n => obtain ⟨ob, es, ep, t, e, c⟩ := x; exact ⟨ob, es, ep, t, k _ _ (.inl rfl) e, c⟩
  | ins C dx fs =>
    obtain ⟨d, z, ne, e, mA, ⟨od, es, ep, e2, c⟩, r⟩ := x
    exact ⟨ho _ d, z, ne, k _ _ (.inl rfl) e, mA, ⟨od, es, ep, k _ _ (.inr d) e2, c⟩, r⟩
  | own y => obtain ⟨ob, e⟩ := x; exact ⟨ob, k _ _ (.inl rfl) e⟩
  | xd fs => obtain ⟨mA, ⟨od, es, ep, e, c⟩, r⟩ := x; exact ⟨mA, ⟨od, es, ep, k _ _ (.inl rfl) e, c⟩, r⟩
  | rng lo hi => obtain ⟨t, u, v, e⟩ := x; exact ⟨t, u, v, k _ _ (.inl rfl) e⟩
  | frz ob u ih => obtain ⟨e, q⟩ := x; exact ⟨k _ _ (.inl rfl) e, ih q⟩
  | tbl ps =>
    have e : h.get? a = some { cls := .none, data := .fields ps } := x
    show h'.get? a = some { cls := .none, data := .fields ps }
    exact k a _ (.inl rfl) e
  | met f y =>
    have e : h.get? a = some (PySem.W.methodObj (.ref f) (.ref y)) := x
    show h'.get? a = some (PySem.W.methodObj (.ref f) (.ref y))
    exact k a _ (.inl rfl) e
  | ext φ => obtain ⟨p, ⟨o, e⟩, st⟩ := x; exact ⟨st _ _ p fun o q => k _ _ (.inl rfl) q, ⟨o, k _ _ (.inl rfl) e⟩, st⟩
theorem HOk.lt (x : HOk P w H h) (e : H a = some o) : a < h.objs.size := (x a o e).lt
theorem HOk.fresh (x : HOk P w H h) (e : h.objs.size ≤ a) : H a = none := by
  cases q : H a with
  | none => rfl
  | some u => exact absurd (Nat.lt_of_lt_of_le (x.lt q) e) (Nat.lt_irrefl _)
theorem HOk.kept (x : HOk P w H h) (k : ∀ b u, h.get? b = some u → h'.get? b = some u) : HOk P w H h' := fun a o e =>
  (x a o e).stay (fun b u _ q => k b u q) (fun _ q => q) fun _ _ q => q
theorem HOk.laid (x : HOk P w H h) (k : ∀ b u, h.get? b = some u → h'.get? b = some u) (hp : h.objs.size ≤ a) (new : ObjOk P w (upd H a o) h' a o) : HOk P w (upd H a o) h' := fun b u e => by
  have hn := x.fresh hp
  by_cases hb : b = a
  · subst hb; rw [upd_same] at e; cases e; exact new
  · rw [upd_ne hb] at e
    exact (x b u e).stay (fun c v _ q => k c v q) (fun c q => by rw [upd_ne (ne_of_none q hn)]; exact q) fun c xs q => by rw [upd_ne (ne_of_none q hn)]; exact q
end
def Rd (H : Hp) (a : Addr) (u : HO) : Prop := H a = some u ∨ ∃ o, H a = some (.frz o u)
theorem Rd.of {H : Hp} {a : Addr} {u : HO} (h : H a = some u) : Rd H a u := .inl h
theorem Rd.ok {P : Program} {w : World} {H : Hp} {h : Heap} {a : Addr} {u : HO} (r : Rd H a u) (x : HOk P w H h) : ObjOk P w H h a u := by
  rcases r with r | ⟨o, r⟩
  · exact x a u r
  · obtain ⟨_, q⟩ := x a _ r
    exact q
def Mut : Option HO → Prop
  | some (.lst _) => True
  | some (.dK _) => True
  | some (.dT _) => True
  | some (.set _ _) => True
  | some (.ins _ _ _) => True
  | some (.ext _) => True
  | _ => False
section
variable {P : Program} {w : World} {H : Hp} {h h' : Heap} {x e : Addr} {o' : HO}
theorem HOk.write (ok : HOk P w H h) (mu : Mut (H x)) (he : e = x ∨ H e = some (.own x)) (k : ∀ b u, b ≠ e → h.get? b = some u → h'.get? b = some u) (heo : ∃ u, h'.get? e = some u)
    (new : ObjOk P w (upd H x o') h' x o') : HOk P w (upd H x o') h' := fun b u q => by
  have nown : ∀ c y, H c = some (.own y) → c ≠ x := fun c y r z => by subst z; rw [r] at mu; exact mu
  have ntup : ∀ c xs, H c = some (.tup xs) → c ≠ x := fun c xs r z => by subst z; rw [r] at mu; exact mu
  by_cases hb : b = x
  · subst hb; rw [upd_same] at q; cases q; exact new
  · rw [upd_ne hb] at q
    by_cases hbe : b = e
    · have q' : H b = some (.own x) := by
        rcases he with z | z
        · exact absurd (hbe.trans z) hb
        · rw [hbe]; exact z
      rw [q] at q'; cases q'
      obtain ⟨v, hv⟩ := heo
      exact ⟨v, by rw [hbe]; exact hv⟩
    · refine (ok b u q).stay (fun c v hc r => k c v ?_ r) (fun c r => by rw [upd_ne (nown c b r)]; exact r) fun c xs r => by rw [upd_ne (ntup c xs r)]; exact r
      rcases hc with rfl | hc
      · exact hbe
      · rintro rfl
        rcases he with z | z
        · exact nown c b hc z
        · rw [hc] at z; cases z; exact hb rfl
end
structure Un (fs ex : List Addr) (H H' : Hp) (h h' : Heap) : Prop where
  keep : ∀ b o, h.get? b = some o → H b = none → b ∉ fs → b ∉ ex → h'.get? b = some o
  slot : ∀ b o, h.get? b = some o → H b = none → b ∈ fs → b ∉ ex → ∃ sl, h'.get? b = some { o with slots := sl }
  free : ∀ b o, h.get? b = some o → H b = none → b ∉ ex → H' b = none
  there : ∀ b o, h.get? b = some o → b ∉ ex → ∃ o', h'.get? b = some o'
  tups : ∀ b xs, H b = some (.tup xs) → H' b = some (.tup xs)
  frzs : ∀ b o u, H b = some (.frz o u) → H' b = some (.frz o u)
  tbls : ∀ b ps, H b = some (.tbl ps) → ∃ more, H' b = some (.tbl (ps ++ more))
section
variable {fs fs' ex ex' : List Addr} {H H1 H2 : Hp} {h h1 h2 h' : Heap} {a x e : Addr} {o : HO}
theorem Un.any (u : Un fs ex H H1 h h1) {b : Addr} {ob : Obj} (q : h.get? b = some ob) (n : H b = none) (hx : b ∉ ex) : ∃ sl, h1.get? b = some { ob with slots := sl } := by
  by_cases hb : b ∈ fs
  · exact u.slot b ob q n hb hx
  · exact ⟨ob.slots, u.keep b ob q n hb hx⟩
theorem Un.trans (a : Un fs ex H H1 h h1) (b : Un fs ex H1 H2 h1 h2) : Un fs ex H H2 h h2 where
  keep := fun c ob q n hc hx => b.keep c ob (a.keep c ob q n hc hx) (a.free c ob q n hx) hc hx
  slot := fun c ob q n hc hx => by
    obtain ⟨sl, e1⟩ := a.slot c ob q n hc hx
    obtain ⟨sl', e2⟩ := b.slot c _ e1 (a.free c ob q n hx) hc hx
    exact ⟨sl', e2⟩
  free := fun c ob q n hx => by
    obtain ⟨o', e1⟩ := a.there c ob q hx
    exact b.free c o' e1 (a.free c ob q n hx) hx
  there := fun c ob q hx => by
    obtain ⟨o', e1⟩ := a.there c ob q hx
    exact b.there c o' e1 hx
  tups := fun c xs q => b.tups c xs (a.tups c xs q)
  frzs := fun c ob xs q => b.frzs c ob xs (a.frzs c ob xs q)
  tbls := fun c ps q => by
    obtain ⟨m1, e1⟩ := a.tbls c ps q
    obtain ⟨m2, e2⟩ := b.tbls c _ e1
    exact ⟨m1 ++ m2, by rw [e2, Array.append_assoc]⟩
theorem Un.kept (k : ∀ b u, h.get? b = some u → h'.get? b = some u) : Un fs ex H H h h' :=
  ⟨fun b ob q _ _ _ => k b ob q, fun b ob q _ _ _ => ⟨ob.slots, k b ob q⟩, fun _ _ _ n _ => n, fun b ob q _ => ⟨ob, k b ob q⟩, fun _ _ q => q, fun _ _ _ q => q, fun _ ps q => ⟨#[], by rw [q]; simp⟩⟩
theorem Un.refl : Un fs ex H H h h := Un.kept fun _ _ q => q
theorem Un.laid (k : ∀ b u, h.get? b = some u → h'.get? b = some u) (hp : h.objs.size ≤ a) (hn : H a = none) : Un fs ex H (upd H a o) h h' where
  keep := fun b u q _ _ _ => k b u q
  slot := fun b u q _ _ _ => ⟨u.slots, k b u q⟩
  free := fun b u q n _ => by rw [upd_ne (Nat.ne_of_lt (Nat.lt_of_lt_of_le (Heap.lt_size q) hp))]; exact n
  there := fun b u q _ => ⟨u, k b u q⟩
  tups := fun b xs q => by rw [upd_ne (ne_of_none q hn)]; exact q
  frzs := fun b u xs q => by rw [upd_ne (ne_of_none q hn)]; exact q
  tbls := fun b ps q => ⟨#[], by rw [upd_ne (ne_of_none q hn), q]; simp⟩
theorem Un.write (mu : Mut (H x)) (he : e = x ∨ H e = some (.own x)) (k : ∀ b u, b ≠ e → h.get? b = some u → h'.get? b = some u) (heo : ∃ u, h'.get? e = some u) : Un fs ex H (upd H x o) h h' := by
  have hx : ∀ b, H b = none → b ≠ x := fun b n z => by subst z; rw [n] at mu; exact mu
  have hb : ∀ b, H b = none → b ≠ e := fun b n z => by
    subst z
    rcases he with r | r
    · exact hx b n r
    · rw [n] at r; cases r
  have hm : ∀ b u, H b = some u → ¬ Mut (some u) → b ≠ x := fun b u q nm z => by subst z; rw [q] at mu; exact nm mu
  refine ⟨fun b u q n _ _ => k b u (hb b n) q, fun b u q n _ _ => ⟨u.slots, k b u (hb b n) q⟩, fun b u q n _ => by rw [upd_ne (hx b n)]; exact n, fun b u q _ => ?_,
    fun b xs q => by rw [upd_ne (hm b _ q fun z => z)]; exact q, fun b u xs q => by rw [upd_ne (hm b _ q fun z => z)]; exact q, fun b ps q => ⟨#[], by rw [upd_ne (hm b _ q fun z => z), q]; simp⟩⟩
  by_cases hbe : b = e
  · subst hbe; exact heo
  · exact ⟨u, k b u hbe q⟩
theorem Un.mono (u : Un fs ex H H1 h h1) (hs : ∀ b ∈ fs, b ∈ fs') (hx : ∀ b ∈ ex, b ∈ ex') : Un fs' ex' H H1 h h1 :=
  ⟨fun b ob q n hb he => u.keep b ob q n (fun z => hb (hs b z)) fun z => he (hx b z), fun _ _ q n _ he => u.any q n fun z => he (hx _ z), fun b ob q n he => u.free b ob q n fun z => he (hx b z), fun b ob q he => u.there b ob q fun z => he (hx b z), u.tups, u.frzs, u.tbls⟩
end
def trk (h : Heap) (H : Hp) : List Addr := (List.range h.objs.size).filter fun a => (H a).isSome
def hidT (h : Heap) (H : Hp) : Heap := PySem.W.hideAll h (trk h H)
theorem hidT_size (h : Heap) (H : Hp) : (hidT h H).objs.size = h.objs.size := PySem.W.hideAll_size _ _
theorem hidT_get {h : Heap} {H : Hp} {b : Addr} {o : Obj} (e : h.get? b = some o) (n : H b = none) : (hidT h H).get? b = some o :=
  PySem.W.hideAll_get _ e fun hm => by
    have q : (H b).isSome = true := (List.mem_filter.mp hm).2
    rw [n] at q; simp at q
theorem of_hidT {h : Heap} {H : Hp} {b : Addr} {o : Obj} (e : (hidT h H).get? b = some o) : h.get? b = some o ∧ H b = none := by
  have e' : h.get? b = some o := PySem.W.of_hideAll (trk h H) e
  refine ⟨e', ?_⟩
  cases q : H b with
  | none => rfl
  | some x =>
    have hm : b ∈ trk h H := List.mem_filter.mpr ⟨List.mem_range.mpr (Heap.lt_size e'), by simp [q]⟩
    have z : (hidT h H).get? b = none := PySem.W.hideAll_none (trk h H) hm
    rw [z] at e; cases e
def allNews (g h : Heap) (L : Addr) : List (Addr × Obj) := (List.range h.objs.size).filterMap fun a => if a = L ∨ (g.get? a).isSome = true then none else (h.get? a).map fun o => (a, o)
def rest (g h : Heap) (L d : Addr) : List (Addr × Obj) := (allNews g h L).filter fun p => decide (p.1 ≠ d)
end L2
namespace L2
open PySem PySem.Spec PyProof.Rows
structure Mod (K : PySem.W.Frag) (mg : Str → Option Value) (base : Heap) : Prop where
  kin : K.In base
  glob : base.Ns mainGlobals mg
  blt : ∃ mb, base.Ns builtinsNs mb ∧ ∀ x : Str, x ≠ "__name__" → mb x = bootBuiltins x
  nolimit : base.NoLimit
structure Cx where
  prog : Program
  w : World
  K : PySem.W.Frag
  mg : Str → Option Value
  base : Heap
  A : Around
  N : List Str
  s₀ : Shared
  H₀ : Hp
  env : Env
  outer : List Env
  stack : List Env
  ex : List Addr
  fn : Str → Bool
  calm : Bool
  pn : List (Addr × Obj)
  xe : Value → Shared → Prop
def frs (l : List Env) : List Addr := l.filterMap (·.frame)
abbrev Cx.fs (X : Cx) : List Addr := frs X.outer
def Vis (sc : Scope) (x : Str) : Prop := sc.names.lookup x = some .local ∨ sc.names.lookup x = some .cell ∨ sc.names.lookup x = some .free
def Loc (sc : Scope) (x : Str) : Prop := sc.names.lookup x = some .local ∨ sc.names.lookup x = some .cell
def Look (env : Env) (h : Heap) (m : Str → Option Value) (x : Str) (u : Value) : Prop :=
  (env.kindOf x = some .local ∧ m x = some u) ∨ ((env.kindOf x = some .cell ∨ env.kindOf x = some .free) ∧ ∃ c, env.cells.lookup x = some c ∧ h.IsCell c (some u))
structure Cx.Ok (X : Cx) : Prop where
  mod : Mod X.K X.mg X.base
  kind : X.env.scope.kind = .function
  glob : X.env.globals = mainGlobals
  blt : X.env.builtins = builtinsNs
  above : X.s₀.heap.objs.size ≤ X.env.locals
  inj : ∀ x y c, X.env.cells.lookup x = some c → X.env.cells.lookup y = some c → x = y
  has : ∀ x, (X.env.kindOf x = some .cell ∨ X.env.kindOf x = some .free) → ∃ c, X.env.cells.lookup x = some c
  cab : ∀ x c, X.fn x = true → X.env.cells.lookup x = some c → X.s₀.heap.objs.size ≤ c
  hd : X.calm = true → X.A.handled = none
  frames : X.A.frames = some X.stack
  stk : X.stack = X.outer ∨ (X.stack = X.env :: X.outer ∧ X.env.frame = some X.env.locals)
  exf : ∀ b ∈ X.ex, b ≠ X.env.locals ∧ ∀ x c, X.env.cells.lookup x = some c → c ≠ b
  bs : ∀ b o, X.base.get? b = some o → X.s₀.heap.get? b = some o ∧ X.H₀ b = none
  bsz : X.base.objs.size ≤ X.s₀.heap.objs.size
  noex : ∀ b o, X.base.get? b = some o → b ∉ X.ex
  exfs : ∀ b ∈ X.ex, b ∉ X.fs
  funs : X.s₀.heap.FunFrames X.base X.outer
  frf : ∀ b ∈ X.fs, X.H₀ b = none
structure Inv (X : Cx) (pins : List (Addr × Obj)) (σ : List (Option V)) (H : Hp) (s : Shared) : Prop where
  ok : X.Ok
  os : s.os = X.s₀.os
  bare : AllBare s.gens
  base : Un X.fs X.ex X.H₀ H X.s₀.heap s.heap
  loc : ∃ m, s.heap.Ns X.env.locals m ∧ ∀ (i : Nat) (x : Str) (v : V), X.N[i]? = some x → σ[i]? = some (some v) → Vis X.env.scope x → ∃ u, RelV v u ∧ Look X.env s.heap m x u
  cell : ∀ x c, X.env.cells.lookup x = some c → ∃ v, s.heap.IsCell c v
  free : H X.env.locals = none
  freeC : ∀ x c, X.env.cells.lookup x = some c → H c = none
  pin : ∀ p ∈ X.pn ++ pins, s.heap.get? p.1 = some p.2 ∧ H p.1 = none ∧ p.1 ≠ X.env.locals ∧ p.1 ∉ X.fs ∧ ∀ v, p.2.data ≠ .cell v
  hok : HOk X.prog X.w H s.heap
  len : σ.length = X.N.length
section
variable {X : Cx} {pins : List (Addr × Obj)} {σ : List (Option V)} {H H' : Hp} {s : Shared} {h' : Heap}
theorem Cx.Ok.nofr (ok : X.Ok) {b : Addr} {o : Obj} (e : X.base.get? b = some o) : b ∉ X.fs := fun hb => by
  have := (ok.funs.mem hb).1
  rw [e] at this; cases this
theorem Inv.bs (I : Inv X pins σ H s) : ∀ b o, X.base.get? b = some o → s.heap.get? b = some o ∧ H b = none := fun b o e =>
  ⟨I.base.keep b o (I.ok.bs b o e).1 (I.ok.bs b o e).2 (I.ok.nofr e) (I.ok.noex b o e), I.base.free b o (I.ok.bs b o e).1 (I.ok.bs b o e).2 (I.ok.noex b o e)⟩
theorem Inv.bk (I : Inv X pins σ H s) : ∀ b o, X.base.get? b = some o → s.heap.get? b = some o := fun b o e => (I.bs b o e).1
theorem Inv.mod (I : Inv X pins σ H s) : Mod X.K X.mg X.base := I.ok.mod
theorem Inv.kIn (I : Inv X pins σ H s) : X.K.In s.heap := I.ok.mod.kin.keeps I.bk
theorem Inv.nolimit (I : Inv X pins σ H s) : s.heap.NoLimit := I.ok.mod.nolimit.keeps I.bk
theorem Inv.fr (I : Inv X pins σ H s) : ∃ m, Fr X.base X.env.locals s.heap m :=
  let ⟨m, hn, _⟩ := I.loc
  ⟨m, hn, I.bk, Nat.le_trans I.ok.bsz I.ok.above⟩
theorem Inv.lt (I : Inv X pins σ H s) : X.env.locals < s.heap.objs.size := let ⟨_, hn, _⟩ := I.loc; hn.lt
theorem Inv.sz (I : Inv X pins σ H s) : X.s₀.heap.objs.size ≤ s.heap.objs.size := Nat.le_trans I.ok.above (Nat.le_of_lt I.lt)
theorem Inv.nofs (I : Inv X pins σ H s) {a : Addr} (h : s.heap.objs.size ≤ a) : a ∉ X.fs := fun hb => by
  obtain ⟨_, o, ho, _⟩ := I.ok.funs.mem hb
  exact absurd (Nat.lt_of_lt_of_le (Heap.lt_size ho) (Nat.le_trans I.sz h)) (Nat.lt_irrefl _)
theorem Inv.cne (I : Inv X pins σ H s) : ∀ x c, X.env.cells.lookup x = some c → c ≠ X.env.locals := fun x c e z => by
  obtain ⟨v, o, ho, hd⟩ := I.cell x c e
  obtain ⟨m, ⟨o', es, ep, ho', hd', _⟩, _⟩ := I.loc
  rw [z, ho'] at ho; cases ho; rw [hd'] at hd; cases hd
theorem Inv.funs (I : Inv X pins σ H s) : s.heap.FunFrames X.base X.outer := by
  have all : ∀ (l : List Env), (∀ b ∈ frs l, b ∈ X.fs) → X.s₀.heap.FunFrames X.base l → s.heap.FunFrames X.base l := by
    intro l
    induction l with
    | nil => intro _ _; trivial
    | cons env r ih =>
      intro hs hl
      obtain ⟨hk, ⟨L, o, hf, hn, ho, hd⟩, hr⟩ := hl
      have hL : L ∈ X.fs := hs L (by unfold frs; rw [List.filterMap_cons, hf]; exact List.mem_cons_self)
      obtain ⟨sl, e⟩ := I.base.slot L o ho (I.ok.frf L hL) hL fun z => I.ok.exfs L z hL
      exact ⟨hk, ⟨L, _, hf, hn, e, hd⟩, ih (fun b hb => hs b (by unfold frs; rw [List.filterMap_cons, hf]; exact List.mem_cons_of_mem _ hb)) hr⟩
  exact all X.outer (fun _ hb => hb) I.ok.funs
theorem Inv.stack (I : Inv X pins σ H s) : s.heap.FunFrames X.base X.stack := by
  rcases I.ok.stk with e | ⟨e, hf⟩
  · rw [e]; exact I.funs
  · rw [e]
    obtain ⟨m, hn, _⟩ := I.loc
    refine .cons (by rw [I.ok.kind]; decide) hf hn ?_ I.funs
    exact Heap.get?_none_of_le (Nat.le_trans I.ok.bsz I.ok.above)
theorem Inv.stkSub (I : Inv X pins σ H s) : ∀ b ∈ frs X.stack, b ∈ X.env.locals :: X.fs := fun b hb => by
  rcases I.ok.stk with e | ⟨e, hf⟩
  · rw [e] at hb; exact List.mem_cons_of_mem _ hb
  · rw [e] at hb
    unfold frs at hb
    rw [List.filterMap_cons, hf] at hb
    exact hb
theorem Inv.stkFree (I : Inv X pins σ H s) : ∀ b ∈ frs X.stack, H b = none := fun b hb => by
  rcases List.mem_cons.mp (I.stkSub b hb) with e | hb
  · rw [e]; exact I.free
  · obtain ⟨_, o, ho, _⟩ := I.ok.funs.mem hb
    exact I.base.free b o ho (I.ok.frf b hb) fun z => I.ok.exfs b z hb
theorem Inv.step {g' : Array GenState} {t' : Nat} {d' : Drawn} {ch : List Addr} (I : Inv X pins σ H s)
    (hch : ∀ b ∈ ch, (b ∈ X.ex ∨ X.s₀.heap.objs.size ≤ b) ∧ b ≠ X.env.locals ∧ (∀ x c, X.env.cells.lookup x = some c → c ≠ b) ∧ ∀ p ∈ X.pn ++ pins, p.1 ≠ b)
    (keep : ∀ b o, b ≠ X.env.locals → b ∉ X.fs → b ∉ ch → s.heap.get? b = some o → H b = none → h'.get? b = some o)
    (slot : ∀ b o, b ≠ X.env.locals → b ∈ X.fs → b ∉ ch → s.heap.get? b = some o → H b = none → ∃ sl, h'.get? b = some { o with slots := sl }) (free : ∀ b o, b ∉ ch → s.heap.get? b = some o → H b = none → H' b = none)
    (there : ∀ b o, b ∉ ch → s.heap.get? b = some o → ∃ o', h'.get? b = some o')
    (tups : ∀ b xs, H b = some (.tup xs) → H' b = some (.tup xs)) (frzs : ∀ b o u, H b = some (.frz o u) → H' b = some (.frz o u)) (tbls : ∀ b ps, H b = some (.tbl ps) → ∃ more, H' b = some (.tbl (ps ++ more)))
    (ns : ∀ m, s.heap.Ns X.env.locals m → h'.Ns X.env.locals m) (hok : HOk X.prog X.w H' h') (hg : AllBare g') :
    Inv X pins σ H' { s with heap := h', gens := g', drawn := d', toks := t' } := by
  have neL : ∀ b o, X.s₀.heap.get? b = some o → b ≠ X.env.locals := fun b o e => Nat.ne_of_lt (Nat.lt_of_lt_of_le (Heap.lt_size e) I.ok.above)
  have neC : ∀ b o, X.s₀.heap.get? b = some o → b ∉ X.ex → b ∉ ch := fun b o e hx hb => by
    rcases (hch b hb).1 with z | z
    · exact hx z
    · exact absurd (Nat.lt_of_lt_of_le (Heap.lt_size e) z) (Nat.lt_irrefl _)
  have cellK : ∀ x c, X.env.cells.lookup x = some c → ∀ v, s.heap.IsCell c v → h'.IsCell c v := fun x c e v ⟨o, ho, hd⟩ => by
    have nch : c ∉ ch := fun z => (hch c z).2.2.1 x c e rfl
    by_cases hc : c ∈ X.fs
    · obtain ⟨sl, q⟩ := slot c o (I.cne x c e) hc nch ho (I.freeC x c e)
      exact ⟨_, q, hd⟩
    · exact ⟨o, keep c o (I.cne x c e) hc nch ho (I.freeC x c e), hd⟩
  refine ⟨I.ok, I.os, hg, ⟨fun b o e n hb hx => ?_, fun b o e n hb hx => ?_, fun b o e n hx => ?_, fun b o e hx => ?_, fun b xs e => tups b xs (I.base.tups b xs e), fun b o xs e => frzs b o xs (I.base.frzs b o xs e), fun b ps e => ?_⟩, ?_, fun x c e => ?_, ?_, fun x c e => ?_, fun p hp => ?_, hok, I.len⟩
  · exact keep b o (neL b o e) hb (neC b o e hx) (I.base.keep b o e n hb hx) (I.base.free b o e n hx)
  · obtain ⟨sl, e1⟩ := I.base.slot b o e n hb hx
    obtain ⟨sl', e2⟩ := slot b _ (neL b o e) hb (neC b o e hx) e1 (I.base.free b o e n hx)
    exact ⟨sl', e2⟩
  · obtain ⟨o', e1⟩ := I.base.there b o e hx
    exact free b o' (neC b o e hx) e1 (I.base.free b o e n hx)
  · obtain ⟨o', e1⟩ := I.base.there b o e hx
    exact there b o' (neC b o e hx) e1
  · obtain ⟨m1, e1⟩ := I.base.tbls b ps e
    obtain ⟨m2, e2⟩ := tbls b _ e1
    exact ⟨m1 ++ m2, by rw [e2, Array.append_assoc]⟩
  · obtain ⟨m, hn, hl⟩ := I.loc
    refine ⟨m, ns m hn, fun i x v e1 e2 e3 => ?_⟩
    obtain ⟨u, r, l⟩ := hl i x v e1 e2 e3
    refine ⟨u, r, ?_⟩
    rcases l with l | ⟨k, c, e, z⟩
    · exact .inl l
    · exact .inr ⟨k, c, e, cellK x c e _ z⟩
  · obtain ⟨v, z⟩ := I.cell x c e
    exact ⟨v, cellK x c e v z⟩
  · obtain ⟨m, ⟨o, _, _, ho, _⟩, _⟩ := I.loc
    exact free _ o (fun z => (hch _ z).2.1 rfl) ho I.free
  · obtain ⟨v, o, ho, hd⟩ := I.cell x c e
    exact free c o (fun z => (hch c z).2.2.1 x c e rfl) ho (I.freeC x c e)
  · obtain ⟨e, n, ne, nf, d⟩ := I.pin p hp
    have nch : p.1 ∉ ch := fun z => (hch p.1 z).2.2.2 p hp rfl
    exact ⟨keep p.1 p.2 ne nf nch e n, free p.1 p.2 nch e n, ne, nf, d⟩
theorem Inv.un {t' : Nat} (I : Inv X pins σ H s) (u : Un X.fs [] H H' s.heap h') (hok : HOk X.prog X.w H' h') : Inv X pins σ H' { s with heap := h', toks := t' } := by
  obtain ⟨m, ⟨o, es, ep, ho, r⟩, _⟩ := id I.loc
  obtain ⟨sl, hL⟩ := u.any ho I.free (by simp)
  exact I.step (g' := s.gens) (d' := s.drawn) (ch := []) (fun _ z => nomatch z) (fun b o _ hb _ e n => u.keep b o e n hb (by simp)) (fun b o _ hb _ e n => u.slot b o e n hb (by simp)) (fun b o _ e n => u.free b o e n (by simp)) (fun b o _ e => u.there b o e (by simp)) u.tups u.frzs u.tbls (fun m' hm => by
    obtain ⟨o', es', ep', ho', r'⟩ := hm
    rw [ho] at ho'; cases ho'
    exact ⟨_, es', ep', hL, r'⟩) hok I.bare
theorem Inv.call {g' : Array GenState} {t' : Nat} {d' : Drawn} {ch : List Addr} (I : Inv X pins σ H s) (u : Un (frs X.stack) ch H H' s.heap h') (hok : HOk X.prog X.w H' h') (hg : AllBare g')
    (hch : ∀ b ∈ ch, (b ∈ X.ex ∨ X.s₀.heap.objs.size ≤ b) ∧ b ≠ X.env.locals ∧ (∀ x c, X.env.cells.lookup x = some c → c ≠ b) ∧ ∀ p ∈ X.pn ++ pins, p.1 ≠ b) :
    Inv X pins σ H' { s with heap := h', gens := g', drawn := d', toks := t' } := by
  obtain ⟨m, ⟨o, es, ep, ho, r⟩, _⟩ := id I.loc
  obtain ⟨sl, hL⟩ := u.any ho I.free fun z => (hch _ z).2.1 rfl
  exact I.step (ch := ch) hch (fun b o hL hb hc e n => u.keep b o e n (fun z => (List.mem_cons.mp (I.stkSub b z)).elim hL hb) hc) (fun b o _ _ hc e n => u.any e n hc) (fun b o hc e n => u.free b o e n hc) (fun b o hc e => u.there b o e hc) u.tups u.frzs u.tbls (fun m' hm => by
    obtain ⟨o', es', ep', ho', r'⟩ := hm
    rw [ho] at ho'; cases ho'
    exact ⟨_, es', ep', hL, r'⟩) hok hg
theorem Inv.turned {t' : Nat} {it : Addr} (I : Inv X pins σ H s) (k : ∀ b o, b ≠ it → s.heap.get? b = some o → h'.get? b = some o) (hn : H it = none) (hL : it ≠ X.env.locals)
    (h1 : it ∈ X.ex ∨ X.s₀.heap.objs.size ≤ it) (h2 : ∀ x c, X.env.cells.lookup x = some c → c ≠ it) (h3 : ∀ p ∈ X.pn ++ pins, p.1 ≠ it) : Inv X pins σ H { s with heap := h', toks := t' } := by
  have nit : ∀ b u, H b = some u → b ≠ it := fun b u e z => by rw [z, hn] at e; cases e
  refine I.step (g' := s.gens) (d' := s.drawn) (ch := [it]) (fun b hb => ?_) (fun b o _ _ hc e _ => k b o (fun z => hc (by simp [z])) e) (fun b o _ _ hc e _ => ⟨o.slots, k b o (fun z => hc (by simp [z])) e⟩) (fun _ _ _ _ n => n)
    (fun b o hc e => ⟨o, k b o (fun z => hc (by simp [z])) e⟩) (fun _ _ e => e) (fun _ _ _ e => e) (fun b ps e => ⟨#[], by rw [e]; simp⟩) (fun m hm => ?_) (fun b u e => ?_) I.bare
  · have e : b = it := by simpa using hb
    subst e
    exact ⟨h1, hL, h2, h3⟩
  · obtain ⟨o, es, ep, ho, r⟩ := hm
    exact ⟨o, es, ep, k _ o (Ne.symm hL) ho, r⟩
  · refine (I.hok b u e).stay (fun c v hc q => k c v ?_ q) (fun _ q => q) fun _ _ q => q
    rcases hc with z | z
    · rw [z]; exact nit b u e
    · exact nit c _ z
theorem Inv.tok (I : Inv X pins σ H s) (t : Nat) : Inv X pins σ H { s with toks := t } := I.un (h' := s.heap) (t' := t) Un.refl I.hok
theorem Inv.kept {t' : Nat} (I : Inv X pins σ H s) (k : ∀ b u, s.heap.get? b = some u → h'.get? b = some u) : Inv X pins σ H { s with heap := h', toks := t' } := I.un (Un.kept k) (I.hok.kept k)
theorem Inv.laid {a : Addr} {o : HO} {t' : Nat} (I : Inv X pins σ H s) (k : ∀ b u, s.heap.get? b = some u → h'.get? b = some u) (hp : s.heap.objs.size ≤ a) (new : ObjOk X.prog X.w (upd H a o) h' a o) :
    Inv X pins σ (upd H a o) { s with heap := h', toks := t' } := I.un (Un.laid k hp (I.hok.fresh hp)) (I.hok.laid k hp new)
theorem Inv.write {x e : Addr} {o : HO} {t' : Nat} (I : Inv X pins σ H s) (mu : Mut (H x)) (he : e = x ∨ H e = some (.own x)) (k : ∀ b u, b ≠ e → s.heap.get? b = some u → h'.get? b = some u) (heo : ∃ u, h'.get? e = some u)
    (new : ObjOk X.prog X.w (upd H x o) h' x o) : Inv X pins σ (upd H x o) { s with heap := h', toks := t' } := I.un (Un.write mu he k heo) (I.hok.write mu he k heo new)
theorem Inv.pins_of {pins' : List (Addr × Obj)} (I : Inv X pins σ H s) (h : ∀ p ∈ pins', s.heap.get? p.1 = some p.2 ∧ H p.1 = none ∧ p.1 ≠ X.env.locals ∧ p.1 ∉ X.fs ∧ ∀ v, p.2.data ≠ .cell v) : Inv X pins' σ H s :=
  ⟨I.ok, I.os, I.bare, I.base, I.loc, I.cell, I.free, I.freeC, fun p hp => (List.mem_append.mp hp).elim (fun z => I.pin p (List.mem_append_left _ z)) (h p), I.hok, I.len⟩
theorem nodup_ix {N : List Str} (hN : N.Nodup) {i j : Nat} {x : Str} (a : N[i]? = some x) (b : N[j]? = some x) : i = j := by
  obtain ⟨h1, e1⟩ := List.getElem?_eq_some_iff.mp a
  obtain ⟨h2, e2⟩ := List.getElem?_eq_some_iff.mp b
  exact (List.getElem_inj hN).mp (e1.trans e2.symm)
theorem store_ok2 {M : Model} {A : Around} {E : Value → Shared → Prop} {i : Nat} {x : Str} {v : V} {u : Value} {Q : Unit → Shared → Prop} (I : Inv X pins σ H s) (hN : X.N.Nodup) (hi : X.N[i]? = some x) (hx : Loc X.env.scope x) (r : RelV v u)
    (h : ∀ s', Inv X pins (σ.set i (some v)) H s' → (∃ a, Heap.SameBut a s.heap s'.heap ∧ (a = X.env.locals ∨ X.env.cells.lookup x = some a)) → Q () s') (hf : X.fn x = true ∨ X.env.scope.names.lookup x = some .local := by first | exact .inl rfl | exact .inr rfl | assumption) : wpAny M A (storeName X.env x u) Q E s := by
  obtain ⟨m, hn, hl⟩ := id I.loc
  have hcls : (X.env.scope.kind == .class || (X.env.scope.kind == .module && X.env.locals != X.env.globals)) = false := by rw [I.ok.kind]; rfl
  have hiσ : i < σ.length := by rw [I.len]; exact (List.getElem?_eq_some_iff.mp hi).1
  have cne := I.cne
  have tracked : ∀ {a : Addr} {h' : Heap}, (∃ o, s.heap.get? a = some o ∧ H a = none) → Heap.SameBut a s.heap h' → HOk X.prog X.w H h' := fun {a h'} ha hs b ob e => by
    obtain ⟨_, _, hfree⟩ := ha
    refine (I.hok b ob e).stay (fun c w' hc q => (hs.2 c ?_).trans q) (fun _ q => q) fun _ _ q => q
    rintro rfl
    rcases hc with rfl | hc
    · rw [hfree] at e; cases e
    · rw [hfree] at hc; cases hc
  rcases hx with hk | hk
  · refine wpAny_storeName_local hk hn (fun h' hn' hs => ?_) hcls
    obtain ⟨oL, _, _, hoL, _⟩ := id hn
    refine h _ ⟨I.ok, I.os, I.bare, ⟨fun b o e n hb hx => ?_, fun b o e n hb hx => ?_, I.base.free, fun b o e hx => ?_, I.base.tups, I.base.frzs, I.base.tbls⟩, ⟨_, hn', fun j y v' e1 e2 e3 => ?_⟩, fun y c e => ?_, I.free, I.freeC, fun p hp => ?_, tracked ⟨oL, hoL, I.free⟩ hs, by simpa using I.len⟩ ⟨_, hs, .inl rfl⟩
    · exact (hs.2 b (Nat.ne_of_lt (Nat.lt_of_lt_of_le (Heap.lt_size e) I.ok.above))).trans (I.base.keep b o e n hb hx)
    · obtain ⟨sl, e1⟩ := I.base.slot b o e n hb hx
      exact ⟨sl, (hs.2 b (Nat.ne_of_lt (Nat.lt_of_lt_of_le (Heap.lt_size e) I.ok.above))).trans e1⟩
    · obtain ⟨o', e1⟩ := I.base.there b o e hx
      exact ⟨o', (hs.2 b (Nat.ne_of_lt (Nat.lt_of_lt_of_le (Heap.lt_size e) I.ok.above))).trans e1⟩
    · by_cases hj : j = i
      · subst hj
        rw [hi] at e1; cases e1
        rw [List.getElem?_set_self hiσ] at e2
        cases e2
        exact ⟨u, r, .inl ⟨hk, by simp⟩⟩
      · rw [List.getElem?_set_ne (Ne.symm hj)] at e2
        obtain ⟨u', r', q⟩ := hl j y v' e1 e2 e3
        refine ⟨u', r', ?_⟩
        rcases q with ⟨k, e⟩ | ⟨k, c, e, z⟩
        · refine .inl ⟨k, ?_⟩
          have : y ≠ x := fun e => hj (nodup_ix hN e1 (e ▸ hi))
          simp [this, e]
        · exact .inr ⟨k, c, e, z.sameBut hs (cne y c e)⟩
    · obtain ⟨w', z⟩ := I.cell y c e
      exact ⟨w', z.sameBut hs (cne y c e)⟩
    · obtain ⟨e, n, ne, nf, d⟩ := I.pin p hp
      exact ⟨(hs.2 p.1 ne).trans e, n, ne, nf, d⟩
  · have hfn : X.fn x = true := by
      rcases hf with z | z
      · exact z
      · rw [z] at hk; cases hk
    obtain ⟨c, hc⟩ := I.ok.has x (.inl hk)
    obtain ⟨w', z⟩ := I.cell x c hc
    refine wpAny_storeName_cell I.ok.kind hk hc z (fun h' hc' hs => ?_)
    obtain ⟨oc, hoc, hocd⟩ := id z
    refine h { s with heap := h' } ⟨I.ok, I.os, I.bare, ⟨fun b o e n hb hx => ?_, fun b o e n hb hx => ?_, I.base.free, fun b o e hx => ?_, I.base.tups, I.base.frzs, I.base.tbls⟩, ⟨m, hn.sameBut hs (Ne.symm (cne x c hc)), fun j y v' e1 e2 e3 => ?_⟩, fun y c' e => ?_, I.free, I.freeC, fun p hp => ?_, tracked ⟨oc, hoc, I.freeC x c hc⟩ hs, by simpa using I.len⟩ ⟨c, hs, .inr hc⟩
    · exact (hs.2 b (Nat.ne_of_lt (Nat.lt_of_lt_of_le (Heap.lt_size e) (I.ok.cab x c hfn hc)))).trans (I.base.keep b o e n hb hx)
    · obtain ⟨sl, e1⟩ := I.base.slot b o e n hb hx
      exact ⟨sl, (hs.2 b (Nat.ne_of_lt (Nat.lt_of_lt_of_le (Heap.lt_size e) (I.ok.cab x c hfn hc)))).trans e1⟩
    · obtain ⟨o', e1⟩ := I.base.there b o e hx
      exact ⟨o', (hs.2 b (Nat.ne_of_lt (Nat.lt_of_lt_of_le (Heap.lt_size e) (I.ok.cab x c hfn hc)))).trans e1⟩
    · by_cases hj : j = i
      · subst hj
        rw [hi] at e1; cases e1
        rw [List.getElem?_set_self hiσ] at e2
        cases e2
        exact ⟨u, r, .inr ⟨.inl hk, c, hc, hc'⟩⟩
      · rw [List.getElem?_set_ne (Ne.symm hj)] at e2
        obtain ⟨u', r', q⟩ := hl j y v' e1 e2 e3
        refine ⟨u', r', ?_⟩
        rcases q with q | ⟨k, c', e, z'⟩
        · exact .inl q
        · refine .inr ⟨k, c', e, z'.sameBut hs ?_⟩
          rintro rfl
          exact hj (nodup_ix hN e1 (I.ok.inj _ _ _ e hc ▸ hi))
    · by_cases hcc : c' = c
      · subst hcc; exact ⟨_, hc'⟩
      · obtain ⟨w2, z2⟩ := I.cell y c' e
        exact ⟨w2, z2.sameBut hs hcc⟩
    · obtain ⟨e, n, ne, nf, d⟩ := I.pin p hp
      refine ⟨(hs.2 p.1 ?_).trans e, n, ne, nf, d⟩
      intro q
      rw [q, hoc] at e
      have q' : oc = p.2 := Option.some.inj e
      exact d w' (by rw [← q']; exact hocd)
theorem store_ok {M : Model} {A : Around} {E : Value → Shared → Prop} {i : Nat} {x : Str} {v : V} {u : Value} {Q : Unit → Shared → Prop} (I : Inv X pins σ H s) (hN : X.N.Nodup) (hi : X.N[i]? = some x) (hx : Loc X.env.scope x) (r : RelV v u)
    (h : ∀ s', Inv X pins (σ.set i (some v)) H s' → Q () s') (hf : X.fn x = true ∨ X.env.scope.names.lookup x = some .local := by first | exact .inl rfl | exact .inr rfl | assumption) : wpAny M A (storeName X.env x u) Q E s :=
  store_ok2 I hN hi hx r (fun s' I' _ => h s' I') hf
theorem Inv.call' {s' : Shared} {ch : List Addr} (I : Inv X pins σ H s) (ho : s'.os = s.os) (u : Un (frs X.stack) ch H H' s.heap s'.heap) (hok : HOk X.prog X.w H' s'.heap) (hg : AllBare s'.gens)
    (hch : ∀ b ∈ ch, (b ∈ X.ex ∨ X.s₀.heap.objs.size ≤ b) ∧ b ≠ X.env.locals ∧ (∀ x c, X.env.cells.lookup x = some c → c ≠ b) ∧ ∀ p ∈ X.pn ++ pins, p.1 ≠ b) : Inv X pins σ H' s' := by
  obtain ⟨h', g', d', t', o'⟩ := s'
  have e : o' = s.os := ho
  subst e
  exact I.call (g' := g') (t' := t') (d' := d') u hok hg hch
end
abbrev XK := Value → Option Addr → Hp → Prop
abbrev St := List (Option V)
abbrev VK := V → Hp → Prop
abbrev TE := St → Hp → VK → Prop
abbrev TT := St → Hp → (Bool → Hp → Prop) → Prop
abbrev TA := St → Hp → (List V → Hp → Prop) → Prop
structure Ends where
  nx : St → Hp → Prop
  rt : VK
  bk : St → Hp → Prop := fun _ _ => False
  ct : St → Hp → Prop := fun _ _ => False
abbrev TS := Ends → St → Hp → Prop
def EP (X : Cx) (pins : List (Addr × Obj)) (σ : St) (Q : VK) (u : Value) (s' : Shared) : Prop := ∃ v H', Inv X pins σ H' s' ∧ RelV v u ∧ Q v H'
def TP (X : Cx) (pins : List (Addr × Obj)) (σ : St) (Q : Bool → Hp → Prop) (b : Bool) (s' : Shared) : Prop := ∃ H', Inv X pins σ H' s' ∧ Q b H'
def AP (X : Cx) (pins : List (Addr × Obj)) (σ : St) (Q : List V → Hp → Prop) (us : List Value) (s' : Shared) : Prop := ∃ vs H', Inv X pins σ H' s' ∧ Vals vs us ∧ Q vs H'
def SP (X : Cx) (pins : List (Addr × Obj)) (D : Ends) (f : Flow) (s' : Shared) : Prop :=
  match f with
  | .next => ∃ σ' H', Inv X pins σ' H' s' ∧ D.nx σ' H'
  | .brk => ∃ σ' H', Inv X pins σ' H' s' ∧ D.bk σ' H'
  | .cont => ∃ σ' H', Inv X pins σ' H' s' ∧ D.ct σ' H'
  | .ret u => ∃ v σ' H', Inv X pins σ' H' s' ∧ RelV v u ∧ D.rt v H'
def PE (X : Cx) (e : Expr) (t : TE) : Prop :=
  ∀ (pins : List (Addr × Obj)) (s : Shared) (σ : St) (H : Hp) (Q : VK), Inv X pins σ H s → t σ H Q → wpAny (model X.prog X.w) X.A (eval e X.env) (EP X pins σ Q) X.xe s
def PT (X : Cx) (e : Expr) (t : TT) : Prop :=
  ∀ (pins : List (Addr × Obj)) (s : Shared) (σ : St) (H : Hp) (Q : Bool → Hp → Prop), Inv X pins σ H s → t σ H Q → wpAny (model X.prog X.w) X.A (isTrue e X.env (eval e X.env)) (TP X pins σ Q) X.xe s
def PW (X : Cx) (e : Expr) (t : TT) : Prop :=
  ∀ (whole : Sem Value) (pins : List (Addr × Obj)) (s : Shared) (σ : St) (H : Hp) (Q : Bool → Hp → Prop), Inv X pins σ H s → t σ H Q → wpAny (model X.prog X.w) X.A (isTrue e X.env whole) (TP X pins σ Q) X.xe s
theorem PW.pt {X : Cx} {e : Expr} {t : TT} (h : PW X e t) : PT X e t := h _
def PA (X : Cx) (es : List Expr) (t : TA) : Prop :=
  ∀ (pos : Pos) (pins : List (Addr × Obj)) (s : Shared) (σ : St) (H : Hp) (Q : List V → Hp → Prop), Inv X pins σ H s → t σ H Q → wpAny (model X.prog X.w) X.A (spliced (backTo pos (starEach es X.env))) (AP X pins σ Q) X.xe s
def PS (X : Cx) (st : Stmt) (t : TS) : Prop :=
  ∀ (pins : List (Addr × Obj)) (s : Shared) (σ : St) (H : Hp) (D : Ends), Inv X pins σ H s → t D σ H → wpAny (model X.prog X.w) X.A (exec st X.env) (SP X pins D) X.xe s
def PSs (X : Cx) (st : List Stmt) (t : TS) : Prop :=
  ∀ (pins : List (Addr × Obj)) (s : Shared) (σ : St) (H : Hp) (D : Ends), Inv X pins σ H s → t D σ H → wpAny (model X.prog X.w) X.A (execs st X.env) (SP X pins D) X.xe s
theorem thn {α : Type} {t : Sem α} {Q Q' : α → Shared → Prop} {M : Model} {A : Around} {E : Value → Shared → Prop} {s : Shared} (h : wpAny M A t Q E s) (hQ : ∀ a s, Q a s → Q' a s) : wpAny M A t Q' E s := wpAny_mono h hQ fun _ _ x => x
end L2
namespace L2
open PySem PySem.Spec PyProof.Rows
section
variable {X : Cx}
def tVar (i : Nat) : TE := fun σ H Q => ∃ v, σ[i]? = some (some v) ∧ Q v H
def tC (v : V) : TE := fun _ H Q => Q v H
theorem pe_var {i : Nat} {x : Str} {pos : Pos} (hN : X.N[i]? = some x) (hv : Vis X.env.scope x) (hd : (x == ("__debug__" : Str)) = false := by decide) (hcd : (x == ("__classdict__" : Str)) = false := by decide) : PE X (.Name x pos) (tVar i) := by
  intro pins s σ H Q I h
  obtain ⟨v, e, h⟩ := h
  obtain ⟨m, hn, hl⟩ := I.loc
  obtain ⟨u, r, l⟩ := hl i x v hN e hv
  have fin : EP X pins σ Q u s := ⟨v, H, I, r, h⟩
  rcases l with ⟨hk, hm⟩ | ⟨hk, c, hc, hcell⟩
  · exact wpAny_Name (wpAny_loadName_local I.ok.kind hk hn hm fin) hd
  · rcases hk with hk | hk
    · exact wpAny_Name (wpAny_loadName_cell I.ok.kind hk hc hcell fin) hd
    · exact wpAny_Name (wpAny_loadName_free I.ok.kind hk hc hcell fin hcd) hd
theorem pe_int {i j pos} : PE X (.Constant (.int i) j pos) (tC (.int i)) := fun _ _ _ H _ I h => wpAny_Constant_int ⟨.int i, H, I.tok _, ⟨_, rfl⟩, h⟩
theorem pe_bl {b j pos} : PE X (.Constant (.bool b) j pos) (tC (.bl b)) := fun _ _ _ H _ I h => Constant_bool ⟨.bl b, H, I, rfl, h⟩
theorem pe_non {j pos} : PE X (.Constant .none j pos) (tC .non) := fun _ _ _ H _ I h => Constant_none ⟨.non, H, I, rfl, h⟩
theorem pe_str {x j pos} : PE X (.Constant (.str x) j pos) (tC (.str x)) := fun _ _ _ H _ I h => Calls.Constant_str ⟨.str x, H, I.tok _, ⟨_, rfl⟩, h⟩
def Gl (X : Cx) (x : Str) : Prop := X.env.kindOf x = some .globalImplicit
theorem ld_glob {E : Value → Shared → Prop} {pins : List (Addr × Obj)} {s : Shared} {σ : St} {H : Hp} {x : Str} {u : Value} {pos : Pos} {Q : Value → Shared → Prop} (I : Inv X pins σ H s) (hg : Gl X x) (hm : X.mg x = some u) (h : Q u s)
    (hd : (x == ("__debug__" : Str)) = false := by decide) : wpAny (model X.prog X.w) X.A (eval (.Name x pos) X.env) Q E s :=
  Calls.Name_function_global I.ok.kind hg (Calls.loadGlobal_global (by rw [I.ok.glob]; exact I.mod.glob.keeps I.bk) hm h) hd
theorem ld_blt {E : Value → Shared → Prop} {pins : List (Addr × Obj)} {s : Shared} {σ : St} {H : Hp} {x : Str} {u : Value} {pos : Pos} {Q : Value → Shared → Prop} (I : Inv X pins σ H s) (hg : Gl X x) (hm : X.mg x = none) (hv : bootBuiltins x = some u) (h : Q u s)
    (hn : x ≠ "__name__" := by decide) (hd : (x == ("__debug__" : Str)) = false := by decide) : wpAny (model X.prog X.w) X.A (eval (.Name x pos) X.env) Q E s := by
  obtain ⟨mb, h1, h2⟩ := I.mod.blt
  exact Calls.Name_function_global I.ok.kind hg (Calls.loadGlobal_builtin (by rw [I.ok.glob]; exact I.mod.glob.keeps I.bk) hm (by rw [I.ok.blt]; exact h1.keeps I.bk) ((h2 x hn).trans hv) h) hd
theorem pe_glob {x : Str} {v : V} {u : Value} {pos : Pos} (hg : Gl X x) (hm : X.mg x = some u) (r : RelV v u) (hd : (x == ("__debug__" : Str)) = false := by decide) : PE X (.Name x pos) (tC v) :=
  fun _ _ _ H _ I h => ld_glob I hg hm ⟨v, H, I, r, h⟩ hd
theorem pe_bltn {x : Str} {v : V} {u : Value} {pos : Pos} (hg : Gl X x) (hm : X.mg x = none) (hv : bootBuiltins x = some u) (r : RelV v u) (hn : x ≠ "__name__" := by decide) (hd : (x == ("__debug__" : Str)) = false := by decide) : PE X (.Name x pos) (tC v) :=
  fun _ _ _ H _ I h => ld_blt I hg hm hv ⟨v, H, I, r, h⟩ hn hd
variable {a b : Expr} {ta tb : TE} {pos : Pos}
def PC (X : Cx) (op : CmpOp) (a b : Expr) (t : TE) : Prop :=
  ∀ (pins : List (Addr × Obj)) (s : Shared) (σ : St) (H : Hp) (Q : VK), Inv X pins σ H s → t σ H Q →
    wpAny (model X.prog X.w) X.A (eval a X.env) (fun v s₁ => wpAny (model X.prog X.w) X.A (eval b X.env) (fun u s₂ => wpAny (model X.prog X.w) X.A (compareOp op v u) (EP X pins σ Q) X.xe s₂) X.xe s₁) X.xe s
theorem nobehind (b : Expr) {op : CmpOp} (h : op ≠ .In) (h2 : op ≠ .NotIn) : behindInMarks op b = false := by
  have e1 : (op == CmpOp.In) = false := by cases op <;> first | rfl | exact absurd rfl h
  have e2 : (op == CmpOp.NotIn) = false := by cases op <;> first | rfl | exact absurd rfl h2
  cases b <;> simp [behindInMarks, e1, e2]
def tIsN (ta : TE) : TE := fun σ H Q => ta σ H fun x H1 => Q (.bl (decide (x = .non))) H1
def tNotN (ta : TE) : TE := fun σ H Q => ta σ H fun x H1 => Q (.bl (!decide (x = .non))) H1
theorem RelV.none_iff {x : V} {v : Value} (r : RelV x v) : (v == Value.none) = decide (x = .non) := by
  cases x with
  | non => cases r; rfl
  | bl _ => cases r; rfl
  | int _ => obtain ⟨t, rfl⟩ := r; rfl
  | str _ => obtain ⟨t, rfl⟩ := r; rfl
  | byt _ => obtain ⟨t, rfl⟩ := r; rfl
  | flt _ => obtain ⟨t, rfl⟩ := r; rfl
  | ref _ => cases r; rfl
  | ty _ => cases r; rfl
theorem pc_isN {j pos'} (ha : PE X a ta) : PC X .Is a (.Constant .none j pos') (tIsN ta) := by
  intro pins s σ H Q I h
  refine thn (ha pins s σ H _ I h) fun v s1 ⟨x, H1, I1, r1, q1⟩ => ?_
  exact Constant_none (is_none_gen ⟨.bl _, H1, I1, by rw [r1.none_iff]; rfl, q1⟩)
theorem pc_notN {j pos'} (ha : PE X a ta) : PC X .IsNot a (.Constant .none j pos') (tNotN ta) := by
  intro pins s σ H Q I h
  refine thn (ha pins s σ H _ I h) fun v s1 ⟨x, H1, I1, r1, q1⟩ => ?_
  exact Constant_none (isnot_none_gen ⟨.bl _, H1, I1, by rw [r1.none_iff]; rfl, q1⟩)
def tB (t : TE) : TT := fun σ H Q => t σ H fun x H1 => ∃ c, x = .bl c ∧ Q c H1
theorem pt_cmp {op : CmpOp} {t : TE} (h : PC X op a b t) (h1 : behindInMarks op b = false := by first | exact nobehind _ (by decide) (by decide) | rfl) : PT X (.Compare a [op] [b] pos) (tB t) := by
  intro pins s σ H Q I hw
  refine wpAny_isTrue_Compare1 (thn (h pins s σ H _ I hw) fun v s1 h1 => thn h1 fun u s2 h2 => thn h2 fun c s3 ⟨x, H1, I1, r1, q1⟩ => ?_) h1
  obtain ⟨d, rfl, q⟩ := q1
  cases r1
  exact wpAny_truthy_bool ⟨H1, I1, q⟩
theorem pt_val {e : Expr} {t : TE} (h : PE X e t) (he : ∀ whole, isTrue e X.env whole = (do let v ← whole; standAt e.pos; holding [v] (truthy v)) := by intro _; rfl) : PT X e (tB t) := by
  intro pins s σ H Q I hw
  refine isTrue_plain (thn (h pins s σ H _ I hw) fun v s1 ⟨x, H1, I1, r1, q1⟩ => ?_) (he _)
  obtain ⟨d, rfl, q⟩ := q1
  cases r1
  exact wpAny_truthy_bool ⟨H1, I1, q⟩
variable {tA tB' : TT} {rest : List Expr}
def tAnd (t u : TT) : TT := fun σ H Q => t σ H fun c H1 => if c = true then u σ H1 Q else Q false H1
def tOr (t u : TT) : TT := fun σ H Q => t σ H fun c H1 => if c = true then Q true H1 else u σ H1 Q
def tNot (t : TT) : TT := fun σ H Q => t σ H fun c H1 => Q (!c) H1
theorem pw_and1 (ha : PT X a tA) : PW X (.BoolOp .And [a] pos) tA := by
  intro wh pins s σ H Q I h
  refine isTrue_and (thn (ha pins s σ H Q I h) fun c s1 e => ?_)
  cases c with
  | true => exact isTrue_and_nil e
  | false => exact e
theorem pw_or1 (ha : PT X a tA) : PW X (.BoolOp .Or [a] pos) tA := by
  intro wh pins s σ H Q I h
  refine isTrue_or (thn (ha pins s σ H Q I h) fun c s1 e => ?_)
  cases c with
  | false => exact isTrue_or_nil e
  | true => exact e
theorem pw_and (ha : PT X a tA) (hb : PW X (.BoolOp .And (b :: rest) pos) tB') : PW X (.BoolOp .And (a :: b :: rest) pos) (tAnd tA tB') := by
  intro wh pins s σ H Q I h
  refine isTrue_and (thn (ha pins s σ H _ I h) fun c s1 ⟨H1, I1, q1⟩ => ?_)
  cases c with
  | true => exact hb wh pins s1 σ H1 Q I1 q1
  | false => exact ⟨H1, I1, q1⟩
theorem pw_or (ha : PT X a tA) (hb : PW X (.BoolOp .Or (b :: rest) pos) tB') : PW X (.BoolOp .Or (a :: b :: rest) pos) (tOr tA tB') := by
  intro wh pins s σ H Q I h
  refine isTrue_or (thn (ha pins s σ H _ I h) fun c s1 ⟨H1, I1, q1⟩ => ?_)
  cases c with
  | true => exact ⟨H1, I1, q1⟩
  | false => exact hb wh pins s1 σ H1 Q I1 q1
theorem pt_not (ha : PT X a tA) : PT X (.UnaryOp .Not a pos) (tNot tA) := by
  intro pins s σ H Q I h
  exact isTrue_not (ha pins s σ H (fun c H1 => Q (!c) H1) I h)
def tAndV (ta tb : TE) : TE := fun σ H Q => ta σ H fun x H1 => ∃ c, x = .bl c ∧ if c = true then tb σ H1 Q else Q (.bl false) H1
def tNotV (ta : TE) : TE := fun σ H Q => ta σ H fun x H1 => ∃ c, x = .bl c ∧ Q (.bl (!c)) H1
theorem pe_one {op} {t : TE} (h : PE X a t) : PE X (.BoolOp op [a] pos) t := fun pins s σ H Q I hw => BoolOp_one (h pins s σ H Q I hw)
theorem pe_and (ha : PE X a ta) (hb : PE X (.BoolOp .And (b :: rest) pos) tb) : PE X (.BoolOp .And (a :: b :: rest) pos) (tAndV ta tb) := by
  intro pins s σ H Q I h
  refine BoolOp_and (thn (ha pins s σ H _ I h) fun v s1 ⟨x, H1, I1, r1, q1⟩ => ?_)
  obtain ⟨c, rfl, q1⟩ := q1
  cases r1
  refine wpAny_truthy_bool ?_
  cases c with
  | true => exact hb pins s1 σ H1 Q I1 q1
  | false => exact ⟨.bl false, H1, I1, rfl, q1⟩
theorem pe_not (ha : PE X a ta) : PE X (.UnaryOp .Not a pos) (tNotV ta) := by
  intro pins s σ H Q I h
  refine UnaryOp_ (thn (ha pins s σ H _ I h) fun v s1 ⟨x, H1, I1, r1, q1⟩ => ?_)
  obtain ⟨c, rfl, q1⟩ := q1
  cases r1
  exact not_of (wpAny_truthy_bool ⟨.bl (!c), H1, I1, rfl, q1⟩)
def tIf (t : TT) (ta tb : TE) : TE := fun σ H Q => t σ H fun c H1 => if c = true then ta σ H1 Q else tb σ H1 Q
theorem pe_ifExp {c : Expr} (hc : PT X c tA) (ha : PE X a ta) (hb : PE X b tb) : PE X (.IfExp c a b pos) (tIf tA ta tb) := by
  intro pins s σ H Q I h
  refine wpAny_IfExp (thn (hc pins s σ H _ I h) fun d s1 ⟨H1, I1, q1⟩ => ?_)
  cases d with
  | true => exact ha pins s1 σ H1 Q I1 q1
  | false => exact hb pins s1 σ H1 Q I1 q1
end
end L2
namespace L2
open PySem PySem.Spec PyProof.Rows
def SqL (K : PySem.W.Frag) (H : Hp) (a : Addr) (xs : List V) : Prop :=
  Rd H a (.lst xs) ∨
    ∃ (o : Obj) (its : Array Value) (n : Nat), K.lookup a = some o ∧ o.cls = .type "list" ∧ o.dict = none ∧ o.data = .seq its n ∧ its.size ≤ sizeLine ∧ Vals xs its.toList
def SqT (K : PySem.W.Frag) (H : Hp) (a : Addr) (xs : List V) : Prop :=
  Rd H a (.tup xs) ∨
    ∃ (o : Obj) (its : Array Value) (n : Nat), K.lookup a = some o ∧ o.cls = .type "tuple" ∧ o.data = .seq its n ∧ its.size ≤ sizeLine ∧ Vals xs its.toList
def absV : Value → Option V
  | .none => some .non
  | .bool b => some (.bl b)
  | .int i _ => some (.int i)
  | .str x _ => some (.str x)
  | .bytes b _ => some (.byt b)
  | .float b _ => some (.flt b)
  | .ref a => some (.ref a)
  | .type n => some (.ty n)
  | _ => none
theorem RelV.abs {x : V} {u : Value} (r : RelV x u) : absV u = some x := by
  cases x with
  | non => cases r; rfl
  | bl _ => cases r; rfl
  | int _ => obtain ⟨t, rfl⟩ := r; rfl
  | str _ => obtain ⟨t, rfl⟩ := r; rfl
  | byt _ => obtain ⟨t, rfl⟩ := r; rfl
  | flt _ => obtain ⟨t, rfl⟩ := r; rfl
  | ref _ => cases r; rfl
  | ty _ => cases r; rfl
theorem RelV.inj {x y : V} {u : Value} (r : RelV x u) (q : RelV y u) : x = y := Option.some.inj (r.abs.symm.trans q.abs)
theorem Vals.inj : ∀ {xs ys : List V} {us : List Value}, Vals xs us → Vals ys us → xs = ys
  | _, _, _, .nil, .nil => rfl
  | _, _, _, .cons r t, .cons r' t' => by rw [r.inj r', Vals.inj t t']
section
variable {X : Cx} {pins : List (Addr × Obj)} {σ : St} {H : Hp} {s : Shared} {a : Addr} {xs ys : List V}
theorem SqL.of {K : PySem.W.Frag} (h : H a = some (.lst xs)) : SqL K H a xs := .inl (.inl h)
theorem SqT.of {K : PySem.W.Frag} (h : H a = some (.tup xs)) : SqT K H a xs := .inl (.inl h)
theorem Inv.list (I : Inv X pins σ H s) (h : SqL X.K H a xs) : ∃ its : List Value, Vals xs its ∧ PlainL s.heap a its.toArray ∧ xs.length ≤ sizeLine := by
  rcases h with h | ⟨o, its, n, hk, hc, hd, hs, hz, r⟩
  · obtain ⟨z, its, n, r, e⟩ := h.ok I.hok
    exact ⟨its, r, ⟨_, n, e, rfl, rfl, rfl⟩, z⟩
  · refine ⟨its.toList, r, ⟨o, n, I.kIn a o hk, hc, hd, by simpa using hs⟩, ?_⟩
    have e := r.length
    simp only [Array.length_toList] at e
    omega
theorem Inv.tuple (I : Inv X pins σ H s) (h : SqT X.K H a xs) : ∃ its : List Value, Vals xs its ∧ IsTup s.heap a its.toArray ∧ xs.length ≤ sizeLine := by
  rcases h with h | ⟨o, its, n, hk, hc, hs, hz, r⟩
  · obtain ⟨z, its, r, p⟩ := h.ok I.hok
    exact ⟨its, r, p, z⟩
  · refine ⟨its.toList, r, ⟨o, I.kIn a o hk, hc, n, by simpa using hs⟩, ?_⟩
    have e := r.length
    simp only [Array.length_toList] at e
    omega
theorem Inv.list_inj (I : Inv X pins σ H s) (h : SqL X.K H a xs) (h' : SqL X.K H a ys) : xs = ys := by
  obtain ⟨its, r, ⟨o, n, e, _, _, d⟩, _⟩ := I.list h
  obtain ⟨its', r', ⟨o', n', e', _, _, d'⟩, _⟩ := I.list h'
  rw [e] at e'; cases e'
  rw [d] at d'
  injection d' with d1 _
  have : its = its' := by simpa using congrArg Array.toList d1
  subst this
  exact r.inj r'
theorem Inv.tuple_inj (I : Inv X pins σ H s) (h : SqT X.K H a xs) (h' : SqT X.K H a ys) : xs = ys := by
  obtain ⟨its, r, ⟨o, e, _, n, d⟩, _⟩ := I.tuple h
  obtain ⟨its', r', ⟨o', e', _, n', d'⟩, _⟩ := I.tuple h'
  rw [e] at e'; cases e'
  rw [d] at d'
  injection d' with d1 _
  have : its = its' := by simpa using congrArg Array.toList d1
  subst this
  exact r.inj r'
end
abbrev Cx.wish (X : Cx) (E : Value → Shared → Prop) : Cx := { X with xe := E }
abbrev Cx.nox (X : Cx) : Cx := X.wish fun _ _ => False
theorem Cx.Ok.wish {X : Cx} (ok : X.Ok) (E : Value → Shared → Prop) : (X.wish E).Ok :=
  ⟨ok.mod, ok.kind, ok.glob, ok.blt, ok.above, ok.inj, ok.has, ok.cab, ok.hd, ok.frames, ok.stk, ok.exf, ok.bs, ok.bsz, ok.noex, ok.exfs, ok.funs, ok.frf⟩
theorem Cx.Ok.unwish {X : Cx} {E : Value → Shared → Prop} (ok : (X.wish E).Ok) : X.Ok :=
  ⟨ok.mod, ok.kind, ok.glob, ok.blt, ok.above, ok.inj, ok.has, ok.cab, ok.hd, ok.frames, ok.stk, ok.exf, ok.bs, ok.bsz, ok.noex, ok.exfs, ok.funs, ok.frf⟩
section
variable {X : Cx} {pins : List (Addr × Obj)} {σ : St} {H : Hp} {s : Shared} {E : Value → Shared → Prop}
theorem Inv.wish (I : Inv X pins σ H s) (E : Value → Shared → Prop) : Inv (X.wish E) pins σ H s := ⟨I.ok.wish E, I.os, I.bare, I.base, I.loc, I.cell, I.free, I.freeC, I.pin, I.hok, I.len⟩
theorem Inv.unwish (I : Inv (X.wish E) pins σ H s) : Inv X pins σ H s := ⟨I.ok.unwish, I.os, I.bare, I.base, I.loc, I.cell, I.free, I.freeC, I.pin, I.hok, I.len⟩
theorem SP.unwish {D : Ends} {f : Flow} {s' : Shared} (h : SP (X.wish E) pins D f s') : SP X pins D f s' := by
  cases f with
  | next => obtain ⟨σ', H', I, q⟩ := h; exact ⟨σ', H', I.unwish, q⟩
  | brk => obtain ⟨σ', H', I, q⟩ := h; exact ⟨σ', H', I.unwish, q⟩
  | cont => obtain ⟨σ', H', I, q⟩ := h; exact ⟨σ', H', I.unwish, q⟩
  | ret u => obtain ⟨v, σ', H', I, r, q⟩ := h; exact ⟨v, σ', H', I.unwish, r, q⟩
theorem PE.nox {e : Expr} {t : TE} (h : PE X.nox e t) : PE X e t := fun pins s σ H Q I hw =>
  wpAny_mono (h pins s σ H Q (I.wish _) hw) (fun _ _ ⟨v, H', I', r, q⟩ => ⟨v, H', I'.unwish, r, q⟩) fun _ _ z => False.elim z
theorem PT.nox {e : Expr} {t : TT} (h : PT X.nox e t) : PT X e t := fun pins s σ H Q I hw =>
  wpAny_mono (h pins s σ H Q (I.wish _) hw) (fun _ _ ⟨H', I', q⟩ => ⟨H', I'.unwish, q⟩) fun _ _ z => False.elim z
theorem PSs.nox {st : List Stmt} {t : TS} (h : PSs X.nox st t) : PSs X st t := fun pins s σ H D I hw =>
  wpAny_mono (h pins s σ H D (I.wish _) hw) (fun _ _ q => q.unwish) fun _ _ z => False.elim z
end
section
variable {X : Cx} {st : Stmt} {rest : List Stmt} {t u : TS} {e : Expr} {te : TE} {pos : Pos}
def tNext : TS := fun D σ H => D.nx σ H
def tSeq (t u : TS) : TS := fun D σ H => t { D with nx := u D } σ H
theorem pss_nil : PSs X [] tNext := fun _ _ σ H _ I h => wpAny_execs_nil ⟨σ, H, I, h⟩
theorem pss_cons (h1 : PS X st t) (h2 : PSs X rest u) : PSs X (st :: rest) (tSeq t u) := by
  intro pins s σ H D I h
  refine wpAny_execs_cons (thn (h1 pins s σ H { D with nx := u D } I h) fun f s1 q => ?_)
  cases f with
  | next =>
    obtain ⟨σ', H', I', q⟩ := q
    exact h2 pins s1 σ' H' D I' q
  | ret v => exact q
  | brk => exact q
  | cont => exact q
theorem pss_one (h1 : PS X st t) : PSs X [st] t := by
  intro pins s σ H D I h
  refine wpAny_execs_cons (thn (h1 pins s σ H D I h) fun f s1 q => ?_)
  cases f with
  | next => exact wpAny_execs_nil q
  | ret v => exact q
  | brk => exact q
  | cont => exact q
theorem Inv.quiet {pins : List (Addr × Obj)} {σ : St} {H : Hp} {s : Shared} (I : Inv X pins σ H s) : interactive X.env = false := by simp [interactive, I.ok.kind]
def tDrop (te : TE) : TS := fun D σ H => te σ H fun _ H1 => D.nx σ H1
theorem ps_expr (he : PE X e te) (hs : swapsWith e none pos.line X.env = pure false := by rfl) : PS X (.Expr e pos) (tDrop te) := by
  intro pins s σ H D I h
  exact wpAny_Expr_any (thn (he pins s σ H _ I h) fun v s1 ⟨x, H1, I1, r1, q1⟩ => ⟨σ, H1, I1, q1⟩) I.quiet hs
def tRet (te : TE) : TS := fun D σ H => te σ H D.rt
theorem ps_ret (he : PE X e te) : PS X (.Return (some e) pos) (tRet te) := by
  intro pins s σ H D I h
  exact wpAny_Return_some (thn (he pins s σ H _ I h) fun v s1 ⟨x, H1, I1, r1, q1⟩ => ⟨x, σ, H1, I1, r1, q1⟩)
def tIfS (c : TT) (t u : TS) : TS := fun D σ H => c σ H fun b H1 => if b = true then t D σ H1 else u D σ H1
theorem ps_if {c : Expr} {a b : List Stmt} {tc : TT} (hc : PT X c tc) (ha : PSs X a t) (hb : PSs X b u) : PS X (.If c a b pos) (tIfS tc t u) := by
  intro pins s σ H D I h
  refine wpAny_If (thn (hc pins s σ H _ I h) fun d s1 ⟨H1, I1, q1⟩ => ?_)
  cases d with
  | true => exact ha pins s1 σ H1 D I1 q1
  | false => exact hb pins s1 σ H1 D I1 q1
end
abbrev TG := V → St → Hp → (St → Hp → Prop) → Prop
abbrev TGs := List V → St → Hp → (St → Hp → Prop) → Prop
def PG (X : Cx) (target : Expr) (t : TG) : Prop :=
  ∀ (pins : List (Addr × Obj)) (s : Shared) (σ : St) (H : Hp) (v : V) (u : Value) (Q : St → Hp → Prop), Inv X pins σ H s → RelV v u → t v σ H Q →
    wpAny (model X.prog X.w) X.A (assign target X.env u) (fun _ s' => ∃ σ' H', Inv X pins σ' H' s' ∧ Q σ' H') X.xe s
def PGs (X : Cx) (ts : List Expr) (t : TGs) : Prop :=
  ∀ (pins : List (Addr × Obj)) (s : Shared) (σ : St) (H : Hp) (vs : List V) (us : List Value) (Q : St → Hp → Prop), Inv X pins σ H s → Vals vs us → t vs σ H Q →
    wpAny (model X.prog X.w) X.A (assignInOrder ((assignEach ts X.env).map (·.2)) us) (fun _ s' => ∃ σ' H', Inv X pins σ' H' s' ∧ Q σ' H') X.xe s
abbrev TSet := V → V → V → Hp → (Hp → Prop) → Prop
def PSet (X : Cx) (t : TSet) : Prop :=
  ∀ (pins : List (Addr × Obj)) (s : Shared) (σ : St) (H : Hp) (o i v : V) (ov iv u : Value) (Q : Hp → Prop), Inv X pins σ H s → RelV o ov → RelV i iv → RelV v u → t o i v H Q →
    wpAny (model X.prog X.w) X.A (setItem ov iv u) (fun _ s' => ∃ H', Inv X pins σ H' s' ∧ Q H') X.xe s
section
variable {X : Cx} {pos : Pos}
def gName (i : Nat) : TG := fun v σ H Q => Q (σ.set i (some v)) H
theorem pg_name {i : Nat} {x : Str} (hN : X.N.Nodup) (hi : X.N[i]? = some x) (hx : Loc X.env.scope x) (hf : X.fn x = true ∨ X.env.scope.names.lookup x = some .local := by first | exact .inl rfl | exact .inr rfl | assumption) : PG X (.Name x pos) (gName i) := by
  intro pins s σ H v u Q I r h
  exact wpAny_assign_Name (store_ok I hN hi hx r (fun s' I' => ⟨_, H, I', h⟩) hf)
def gNil : TGs := fun vs σ H Q => vs = [] ∧ Q σ H
def gCons (t : TG) (u : TGs) : TGs := fun vs σ H Q => ∃ v r, vs = v :: r ∧ t v σ H fun σ' H' => u r σ' H' Q
theorem pgs_nil : PGs X [] gNil := by
  intro pins s σ H vs us Q I r h
  obtain ⟨e, h⟩ := h
  subst e
  cases r
  exact assignInOrder_nil ⟨σ, H, I, h⟩
theorem pgs_cons {e : Expr} {es : List Expr} {t : TG} {u : TGs} (h1 : PG X e t) (h2 : PGs X es u)
    (hs : (assignEach (e :: es) X.env).map (·.2) = assign e X.env :: (assignEach es X.env).map (·.2) := by rfl) : PGs X (e :: es) (gCons t u) := by
  intro pins s σ H vs us Q I r h
  obtain ⟨v, vr, e1, h⟩ := h
  subst e1
  cases r with
  | cons r rr =>
    rw [hs]
    refine assignInOrder_cons (thn (h1 pins s σ H _ _ _ I r h) fun _ s1 ⟨σ1, H1, I1, q1⟩ => ?_)
    exact h2 pins s1 σ1 H1 _ _ Q I1 rr q1
def gTup (K : PySem.W.Frag) (n : Nat) (t : TGs) : TG := fun v σ H Q => ∃ a xs, v = .ref a ∧ SqT K H a xs ∧ xs.length = n ∧ t xs σ H Q
theorem pg_tup {es : List Expr} {k : Nat} {t : TGs} {n : Nat} (hc : X.calm = true) (h : PGs X es t)
    (hn : (assignEach es X.env).length = n := by rfl) (hst : (assignEach es X.env).findIdx? (·.1) = none := by rfl) : PG X (.Tuple es k pos) (gTup X.K n t) := by
  intro pins s σ H v u Q I r hw
  obtain ⟨a, xs, e1, hq, hl, hw⟩ := hw
  subst e1
  cases r
  obtain ⟨its, rv, ht, hz⟩ := I.tuple hq
  refine assign_Tuple_tuple (I.ok.hd hc) ht (by simp [hn, ← hl, rv.length]) hst fun h' hx => ?_
  have I1 : Inv X pins σ H { s with heap := h' } := I.kept (t' := s.toks) fun b o e => hx b o (Nat.ne_of_lt (Heap.lt_size e)) e
  exact h pins _ σ H xs _ Q I1 (by simpa using rv) hw
def gSub (to ti : TE) (t : TSet) : TG := fun v σ H Q => to σ H fun o H1 => ti σ H1 fun i H2 => t o i v H2 fun H3 => Q σ H3
theorem pg_sub {o i : Expr} {to ti : TE} {t : TSet} (ho : PE X o to) (hi : PE X i ti) (hs : PSet X t)
    (ha : ∀ v, assign (.Subscript o i pos) X.env v = (do
      let ov ← holding [v] (eval o X.env)
      let iv ← holding [v, ov] (eval i X.env)
      standAt pos
      holding [v, ov, iv] (setItem ov iv v)
      release [v, ov, iv] []) := by intro _; rfl) : PG X (.Subscript o i pos) (gSub to ti t) := by
  intro pins s σ H v u Q I r h
  rw [ha]
  refine wpAny_bind (wpAny_holding (thn (ho pins s σ H _ I h) fun ov s1 ⟨x, H1, I1, r1, q1⟩ => ?_))
  refine wpAny_bind (wpAny_holding (thn (hi pins s1 σ H1 _ I1 q1) fun iv s2 ⟨y, H2, I2, r2, q2⟩ => ?_))
  refine wpAny_bind (wpAny_standAt (wpAny_bind (wpAny_holding (thn (hs pins s2 σ H2 x y v ov iv u _ I2 r1 r2 r q2) fun _ s3 ⟨H3, I3, q3⟩ => ?_))))
  exact wpAny_release ⟨σ, H3, I3, q3⟩
def tAsg (te : TE) (g : TG) : TS := fun D σ H => te σ H fun x H1 => g x σ H1 D.nx
theorem ps_asg {tg e : Expr} {te : TE} {g : TG} (he : PE X e te) (hg : PG X tg g) (hs : swapsWithSole [tg] e pos.line X.env = pure false := by rfl) (hw : swappedStores [tg] e X.env = pure none := by rfl)
    (h1 : (assignEach [tg] X.env).map (·.2) = [assign tg X.env] := by rfl) : PS X (.Assign [tg] e pos) (tAsg te g) := by
  intro pins s σ H D I h
  refine wpAny_Assign_stores (thn (he pins s σ H _ I h) fun v s1 ⟨x, H1, I1, r1, q1⟩ => ?_) hs hw
  rw [h1]
  exact thn (hg pins s1 σ H1 x v _ I1 r1 q1) fun _ s2 q => q
theorem ps_set {i : Nat} {x : Str} {e : Expr} {te : TE} {pos' : Pos} (hN : X.N.Nodup) (hi : X.N[i]? = some x) (hx : Loc X.env.scope x) (he : PE X e te) (hs : swapsWith e (some (.Name x pos')) pos.line X.env = pure false := by rfl) (hf : X.fn x = true ∨ X.env.scope.names.lookup x = some .local := by first | exact .inl rfl | exact .inr rfl | assumption) :
    PS X (.Assign [.Name x pos'] e pos) (tAsg te (gName i)) := by
  intro pins s σ H D I h
  refine wpAny_Assign_Name (thn (he pins s σ H _ I h) fun v s1 ⟨y, H1, I1, r1, q1⟩ => ?_) hs
  exact store_ok I1 hN hi hx r1 (fun s2 I2 => ⟨_, H1, I2, q1⟩) hf
end
section
variable {X : Cx} {pos : Pos}
end
structure It where
  go : Nat → Hp → Prop
  yld : Nat → Hp → V → Hp → Prop
  stop : Nat → Hp → Prop
def FpOk (X : Cx) (pins : List (Addr × Obj)) (H : Hp) (b : Addr) : Prop :=
  H b = none ∧ b ≠ X.env.locals ∧ b ∉ X.fs ∧ (b ∈ X.ex ∨ X.s₀.heap.objs.size ≤ b) ∧ (∀ x c, X.env.cells.lookup x = some c → c ≠ b) ∧ ∀ p ∈ X.pn ++ pins, p.1 ≠ b
theorem Inv.fpOk {X : Cx} {pins : List (Addr × Obj)} {σ : St} {H H' : Hp} {s : Shared} {b : Addr} (I : Inv X pins σ H s) (hb : s.heap.objs.size ≤ b) (hn : H' b = none) : FpOk X pins H' b := by
  refine ⟨hn, Nat.ne_of_gt (Nat.lt_of_lt_of_le I.lt hb), I.nofs hb, .inr (Nat.le_trans I.sz hb), fun x c e z => ?_, fun p hp z => ?_⟩
  · obtain ⟨v, q⟩ := I.cell x c e
    exact absurd (Nat.lt_of_lt_of_le q.lt (by rw [z]; exact hb)) (Nat.lt_irrefl _)
  · exact absurd (Nat.lt_of_lt_of_le (Heap.lt_size (I.pin p hp).1) (by rw [z]; exact hb)) (Nat.lt_irrefl _)
structure Turn (P : Program) (w : World) (K : PySem.W.Frag) (tg : Expr) (J : It) (fp : List Addr) (it : Addr) (tn : Nat → Heap → Prop) : Prop where
  mem : it ∈ fp
  obj : ∀ i h, tn i h → ∀ b ∈ fp, ∃ o, h.get? b = some o ∧ ∀ v, o.data ≠ .cell v
  keep : ∀ i h h', tn i h → (∀ b ∈ fp, ∀ o, h.get? b = some o → h'.get? b = some o) → tn i h'
  item : ∀ (X : Cx), X.prog = P → X.w = w → X.K = K → X.calm = true → ∀ (i : Nat) (pins : List (Addr × Obj)) (s : Shared) (σ : St) (H : Hp) (E : Value → Shared → Prop), Inv X pins σ H s → (∀ b ∈ fp, FpOk X pins H b) → tn i s.heap → J.go i H →
    wpAny (model P w) X.A (pyNext (.ref it)) (fun r s1 => ∃ u, r = some u ∧
      wpAny (model P w) X.A (letOwnedTupleGo tg (.ref it) u) (fun _ s2 => ∃ x H', Inv X pins σ H' s2 ∧ RelV x u ∧ J.yld i H x H' ∧ tn (i + 1) s2.heap ∧ ∀ b ∈ fp, H' b = none) E s1) E s
  done : ∀ (X : Cx), X.prog = P → X.w = w → X.K = K → X.calm = true → ∀ (i : Nat) (pins : List (Addr × Obj)) (s : Shared) (σ : St) (H : Hp) (E : Value → Shared → Prop), Inv X pins σ H s → (∀ b ∈ fp, FpOk X pins H b) → tn i s.heap → J.stop i H →
    wpAny (model P w) X.A (pyNext (.ref it)) (fun r s1 => r = none ∧ Inv X pins σ H s1) E s
  self : ∀ (A : Around) (i : Nat) (s : Shared) (Q : Value → Shared → Prop) (E : Value → Shared → Prop), tn i s.heap → Q (.ref it) s → wpAny (model P w) A (pyIter (.ref it)) Q E s
abbrev TI := St → Hp → (It → Hp → Prop) → Prop
def PIE (X : Cx) (pins : List (Addr × Obj)) (σ : St) (tg : Expr) (R : It → Hp → Prop) (itv : Value) (s2 : Shared) : Prop :=
  ∃ (it : Addr) (fp : List Addr) (tn : Nat → Heap → Prop) (J : It) (H' : Hp), itv = .ref it ∧ Inv X pins σ H' s2 ∧ Turn X.prog X.w X.K tg J fp it tn ∧ tn 0 s2.heap ∧ (∀ b ∈ fp, FpOk X pins H' b) ∧ R J H'
def PI (X : Cx) (tg iter : Expr) (wi : TI) : Prop :=
  ∀ (pins : List (Addr × Obj)) (s : Shared) (σ : St) (H : Hp) (R : It → Hp → Prop), Inv X pins σ H s → wi σ H R →
    wpAny (model X.prog X.w) X.A (eval iter X.env) (fun v s1 => wpAny (model X.prog X.w) X.A (pyIter v) (PIE X pins σ tg R) X.xe s1) X.xe s
theorem go_of {M : Model} {A : Around} {E : Value → Shared → Prop} {s : Shared} {tg : Expr} {it : Addr} {u : Value} {o : Obj} {n : String} {vs : Array Value} {Q : Unit → Shared → Prop} (ho : s.heap.get? it = some o) (hc : o.cls = .type n) (hd : o.data = .fields vs)
    (hn : ["enumerate", "zip", "dict_itemiterator", "dict_reverseitemiterator", "odict_iterator", "itertools.zip_longest", "itertools.pairwise"].contains n = false) (hQ : Q () s) : wpAny M A (letOwnedTupleGo tg (.ref it) u) Q E s := by
  unfold letOwnedTupleGo
  cases tg <;> first
    | exact wpAny_pure hQ
    | (cases u <;> first
        | exact wpAny_pure hQ
        | (refine wpAny_bind (wpAny_load ho ?_)
           rw [hc, hd]
           show wpAny M A (if (["enumerate", "zip", "dict_itemiterator", "dict_reverseitemiterator", "odict_iterator", "itertools.zip_longest", "itertools.pairwise"].contains n && vs[0]? == some (rawInt _)) = true then _ else _) Q E s
           rw [if_neg (by intro h; rw [hn, Bool.false_and] at h; cases h)]
           exact wpAny_pure hQ))
def Itt (K : PySem.W.Frag) (a : Addr) : It :=
  ⟨fun i H => ∃ xs x, SqT K H a xs ∧ xs[i]? = some x, fun i H x H' => H' = H ∧ ∀ xs, SqT K H a xs → xs[i]? = some x, fun i H => ∃ xs, SqT K H a xs ∧ xs.length ≤ i⟩
def Itr (lo : Int) (n : Nat) : It := ⟨fun i _ => i < n, fun i H x H' => H' = H ∧ x = .int (lo + i), fun i _ => n ≤ i⟩
theorem turn_tuple {P : Program} {w : World} {K : PySem.W.Frag} {tg : Expr} (a it : Addr) : Turn P w K tg (Itt K a) [it] it (fun i h => h.IsTupleIter it a i) where
  mem := by simp
  obj := fun i h st b hb => by
    have e : b = it := by simpa using hb
    subst e
    obtain ⟨o, e, c, d⟩ := st
    exact ⟨o, e, fun v z => by rw [d] at z; cases z⟩
  keep := fun i h h' st k => st.at fun o e => k it (by simp) o e
  item := by
    intro X hP hw hK hc i pins s σ H E I hf st hg
    subst hP hw hK
    obtain ⟨xs, x, hq, hx⟩ := hg
    obtain ⟨its, rv, p, hz⟩ := I.tuple hq
    obtain ⟨u, hu, ru⟩ := rv.get hx
    obtain ⟨f0, f1, f2, f3, f4, f5⟩ := hf it (by simp)
    refine wpAny_pyNext_tuple_item st (show s.heap.IsTuple a its.toArray from p) (x := u) (by simpa using hu) fun h' st' sb => ?_
    have I1 : Inv X pins σ H { s with heap := h' } := I.turned (t' := s.toks) (fun b o hb e => (sb.2 b hb).trans e) f0 f1 f3 f4 f5
    obtain ⟨o, e, c, d⟩ := id st'
    exact ⟨u, rfl, go_of (s := { s with heap := h' }) e c d (by decide) ⟨x, H, I1, ru, ⟨rfl, fun ys hy => by rw [I.tuple_inj hy hq]; exact hx⟩, st', fun b hb => (hf b hb).1⟩⟩
  done := by
    intro X hP hw hK hc i pins s σ H E I hf st hg
    subst hP hw hK
    obtain ⟨xs, hq, hx⟩ := hg
    obtain ⟨its, rv, p, hz⟩ := I.tuple hq
    obtain ⟨f0, f1, f2, f3, f4, f5⟩ := hf it (by simp)
    have hl := rv.length
    exact wpAny_pyNext_tuple_end (I.ok.hd hc) st (show s.heap.IsTuple a its.toArray from p) (by simp; omega) fun h' eb => ⟨rfl, I.turned (t' := s.toks) (fun b o hb e => eb b o hb e) f0 f1 f3 f4 f5⟩
  self := fun _ _ _ _ _ st h => wpAny_pyIter_tupleiter st h
theorem turn_range {P : Program} {w : World} {K : PySem.W.Frag} {tg : Expr} (it : Addr) (lo : Int) (n : Nat) : Turn P w K tg (Itr lo n) [it] it (fun i h => IsRangeIter h it (lo + (i : Nat) * 1) ((n : Int) - (i : Nat)) 1) where
  mem := by simp
  obj := fun i h st b hb => by
    have e : b = it := by simpa using hb
    subst e
    exact ⟨_, st, fun v z => by
      have z' : Data.fields _ = Data.cell v := z
      cases z'⟩
  keep := fun i h h' st k => k it (by simp) _ st
  item := by
    intro X hP hw hK hc i pins s σ H E I hf st hg
    subst hP hw hK
    obtain ⟨f0, f1, f2, f3, f4, f5⟩ := hf it (by simp)
    have W := Walks.range (prog := X.prog) (w := X.w) (I.ok.hd hc) it lo 1 n
    refine W.item i s _ _ hg st fun v h' tk hv st' kk => ?_
    obtain ⟨t, rfl⟩ := hv
    have I1 : Inv X pins σ H { s with heap := h', toks := tk } := I.turned (fun b o hb e => kk b o (by simpa using hb) e) f0 f1 f3 f4 f5
    refine ⟨_, rfl, go_of (s := { s with heap := h', toks := tk }) (n := "range_iterator") st' rfl rfl (by decide) ⟨.int (lo + i), H, I1, ⟨t, ?_⟩, ⟨rfl, rfl⟩, st', fun b hb => (hf b hb).1⟩⟩
    rw [Int.mul_one]
  done := by
    intro X hP hw hK hc i pins s σ H E I hf st hg
    subst hP hw hK
    obtain ⟨f0, f1, f2, f3, f4, f5⟩ := hf it (by simp)
    exact wpAny_pyNext_range_end (I.ok.hd hc) st (by have : n ≤ i := hg; omega) fun h' eb => ⟨rfl, I.turned (t' := s.toks) (fun b o hb e => eb b o hb e) f0 f1 f3 f4 f5⟩
  self := fun _ _ _ _ _ st h => wpAny_pyIter_rangeiter st h
end L2
namespace L2
open PySem PySem.Spec PyProof.Rows
section
variable {X : Cx} {tg : Expr}
def iTup (K : PySem.W.Frag) (tl : TE) : TI := fun σ H R => tl σ H fun x H1 => ∃ a, x = .ref a ∧ (∃ xs, SqT K H1 a xs) ∧ R (Itt K a) H1
theorem pi_tup {l : Expr} {tl : TE} (hl : PE X l tl) : PI X tg l (iTup X.K tl) := by
  intro pins s σ H R I h
  refine thn (hl pins s σ H _ I h) fun v s1 ⟨x, H1, I1, r1, q1⟩ => ?_
  obtain ⟨a, e, ⟨xs, hq⟩, q⟩ := q1
  subst e
  cases r1
  obtain ⟨its, rv, p, hz⟩ := I1.tuple hq
  refine wpAny_pyIter_tuple (show s1.heap.IsTuple a its.toArray from p) ?_
  refine ⟨s1.heap.objs.size, [s1.heap.objs.size], _, _, H1, rfl, I1.kept (t' := s1.toks) fun b o e => Heap.get?_push_of_some _ e, turn_tuple a _, ⟨_, Heap.get?_push_size _ rfl, rfl, rfl⟩, fun b hb => ?_, q⟩
  have e : b = s1.heap.objs.size := by simpa using hb
  subst e
  exact I1.fpOk (Nat.le_refl _) (I1.hok.fresh (Nat.le_refl _))
theorem range_it {pins : List (Addr × Obj)} {σ : St} {H : Hp} {s : Shared} {R : It → Hp → Prop} {E : Value → Shared → Prop} {lo hi : Int} {t u v : Tok} {tk : Nat} (I : Inv X pins σ H s) (h1 : -(2 ^ 62) ≤ lo) (h2 : lo < 2 ^ 62) (h3 : -(2 ^ 62) ≤ hi) (h4 : hi < 2 ^ 62)
    (q : R (Itr lo (hi - lo).toNat) H) : wpAny (model X.prog X.w) X.A (pyIter (.ref s.heap.objs.size)) (PIE X pins σ tg R) E { s with heap := s.heap.push { cls := .type "range", data := .fields #[.int lo t, .int hi u, .int 1 v] }, toks := tk } := by
  refine wpAny_pyIter_range (IsRange.new ..) (small_one h1 h2 h3 h4) ?_
  have I1 : Inv X pins σ H { s with heap := s.heap.push { cls := .type "range", data := .fields #[.int lo t, .int hi u, .int 1 v] }, toks := tk } := I.kept fun b o e => Heap.get?_push_of_some _ e
  refine ⟨(s.heap.push { cls := .type "range", data := .fields #[.int lo t, .int hi u, .int 1 v] }).objs.size, [(s.heap.push { cls := .type "range", data := .fields #[.int lo t, .int hi u, .int 1 v] }).objs.size], _, _, H, rfl,
    I1.kept (t' := tk) fun b o e => Heap.get?_push_of_some _ e, turn_range _ lo (hi - lo).toNat, ?_, fun b hb => ?_, q⟩
  · have e1 : lo + ((0 : Nat) : Int) * 1 = lo := by simp
    have e2 : (((hi - lo).toNat : Nat) : Int) - ((0 : Nat) : Int) = Builtin.Range.rangeSize lo hi 1 := by rw [rangeSize_one]; split <;> omega
    show IsRangeIter _ _ (lo + ((0 : Nat) : Int) * 1) ((((hi - lo).toNat : Nat) : Int) - ((0 : Nat) : Int)) 1
    rw [e1, e2]
    exact Heap.get?_push_size _ rfl
  · have e : b = (s.heap.push { cls := .type "range", data := .fields #[.int lo t, .int hi u, .int 1 v] }).objs.size := by simpa using hb
    subst e
    exact I1.fpOk (Nat.le_refl _) (I1.hok.fresh (Nat.le_refl _))
def iRng1 (ta : TA) : TI := fun σ H R => ta σ H fun vs H1 => ∃ j : Int, vs = [.int j] ∧ -(2 ^ 62) ≤ j ∧ j < 2 ^ 62 ∧ R (Itr 0 j.toNat) H1
theorem pi_range1 {a : Expr} {ta : TA} {p pos : Pos} (hg : Gl X "range") (hm : X.mg "range" = none) (ha : PA X [a] ta) (hs : starEach [a] X.env = [(false, eval a X.env)] := by rfl) : PI X tg (.Call (.Name "range" p) [a] [] pos) (iRng1 ta) := by
  intro pins s σ H R I h
  refine Call_ (ld_blt I hg hm boot_range (PyProof.Rows.callWith_type1 (thn (ha pos pins s σ H _ I h) fun us s1 ⟨vs, H1, I1, r1, q1⟩ => ?_) hs rfl))
  obtain ⟨j, e, q1, q2, q⟩ := q1
  subst e
  cases r1 with
  | cons r rr =>
    cases rr
    obtain ⟨t, rfl⟩ := r
    exact call_range_1 (range_it I1 (by omega) (by omega) q1 q2 (by simpa using q))
def tFor (wi : TI) (g : TG) (tb : TS) : TS := fun D σ H => wi σ H fun J H1 => ∃ W : Nat → Nat → St → Hp → Prop, (∃ m, W 0 m σ H1) ∧ ∀ i m σ H, W i m σ H →
  (J.stop i H ∧ D.nx σ H) ∨ (J.go i H ∧ ∃ N : St → Hp → Prop, (∀ σ' H', N σ' H' → ∃ m', m' < m ∧ W (i + 1) m' σ' H') ∧ ∀ x H', J.yld i H x H' → g x σ H' fun σ2 H2 => tb { D with nx := N, ct := N, bk := D.nx } σ2 H2)
def pinsAt (fp : List Addr) (h : Heap) : List (Addr × Obj) := fp.filterMap fun b => (h.get? b).map fun o => (b, o)
theorem mem_pinsAt {fp : List Addr} {h : Heap} {b : Addr} {o : Obj} (hb : b ∈ fp) (e : h.get? b = some o) : (b, o) ∈ pinsAt fp h := List.mem_filterMap.mpr ⟨b, hb, by rw [e]; rfl⟩
theorem of_pinsAt {fp : List Addr} {h : Heap} {p : Addr × Obj} (hp : p ∈ pinsAt fp h) : p.1 ∈ fp ∧ h.get? p.1 = some p.2 := by
  obtain ⟨b, hb, e⟩ := List.mem_filterMap.mp hp
  cases q : h.get? b with
  | none => rw [q] at e; cases e
  | some o =>
    rw [q] at e
    have e' : (b, o) = p := Option.some.inj e
    subst e'
    exact ⟨hb, q⟩
theorem Inv.pinned {pins : List (Addr × Obj)} {σ : St} {H : Hp} {s : Shared} {fp : List Addr} (I : Inv X pins σ H s) (hf : ∀ b ∈ fp, FpOk X pins H b) (ho : ∀ b ∈ fp, ∃ o, s.heap.get? b = some o ∧ ∀ v, o.data ≠ .cell v) : Inv X (pins ++ pinsAt fp s.heap) σ H s :=
  I.pins_of fun p hp => (List.mem_append.mp hp).elim (fun z => I.pin p (List.mem_append_right _ z)) fun z => by
    obtain ⟨hb, e⟩ := of_pinsAt z
    obtain ⟨f0, f1, f2, _⟩ := hf p.1 hb
    obtain ⟨o, e', d⟩ := ho p.1 hb
    rw [e] at e'; cases e'
    exact ⟨e, f0, f1, f2, d⟩
theorem Inv.unpinned {pins pl : List (Addr × Obj)} {σ : St} {H : Hp} {s : Shared} (I : Inv X (pins ++ pl) σ H s) : Inv X pins σ H s := I.pins_of fun p hp => I.pin p (List.mem_append_right _ (List.mem_append_left _ hp))
theorem ps_for {iter : Expr} {body : List Stmt} {wi : TI} {g : TG} {tb : TS} {pos : Pos} (hp : PassesOwn (model X.prog X.w) X.A X.env X.xe) (hc : X.calm = true) (hi : PI X tg iter wi) (hg : PG X tg g) (hb : PSs X body tb)
    (hs : ∀ x, foldedSetIterable iter X.env x = pure x := by intro _; rfl) : PS X (.For tg iter body [] pos) (tFor wi g tb) := by
  intro pins s σ H D I h
  refine wpAny_For (thn (hi pins s σ H _ I h) fun v s1 h1 => thn h1 fun itv s2 h2 => ?_) hs
  obtain ⟨it, fp, tn, J, H2, e, I2, T, st2, f2, W, ⟨m0, w0⟩, turn⟩ := h2
  subst e
  -- what stays true of the iterator's objects through the loop
  have stat : ∀ {H' : Hp}, (∀ b ∈ fp, H' b = none) → ∀ b ∈ fp, FpOk X pins H' b := fun hn b hb => ⟨hn b hb, (f2 b hb).2⟩
  refine codeAny_forLoop_any (fun n s' => ∃ i σ' H', Inv X pins σ' H' s' ∧ tn i s'.heap ∧ (∀ b ∈ fp, H' b = none) ∧ W i n σ' H') ?_ m0 ⟨0, σ, H2, I2, st2, fun b hb => (f2 b hb).1, w0⟩
  rintro n s3 ⟨i, σ3, H3, I3, st3, fr3, w3⟩
  rcases turn i n σ3 H3 w3 with ⟨stop, qn⟩ | ⟨go, N, hN, step⟩
  · refine wpAny_passesOwn hp (thn (T.done X rfl rfl rfl hc i pins s3 σ3 H3 X.xe I3 (stat fr3) st3 stop) fun r s4 ⟨hr, I4⟩ => ?_)
    subst hr
    exact wpAny_execs_nil ⟨σ3, H3, I4, qn⟩
  · refine wpAny_passesOwn hp (thn (T.item X rfl rfl rfl hc i pins s3 σ3 H3 X.xe I3 (stat fr3) st3 go) fun r s4 ⟨u, hr, h4⟩ => ?_)
    subst hr
    refine wpAny_passesOwn hp (thn h4 fun _ s5 ⟨x, H5, I5, r5, y5, st5, fr5⟩ => ?_)
    have I5' := I5.pinned (stat fr5) (T.obj _ _ st5)
    refine wpAny_passesOwn hp (thn (hg _ s5 σ3 H5 x u _ I5' r5 (step x H5 y5)) fun _ s6 ⟨σ6, H6, I6, q6⟩ => ?_)
    refine wpAny_passesOwn hp (thn (hb _ s6 σ6 H6 _ I6 q6) fun f s7 q7 => ?_)
    have again : ∀ {σ7 : St} {H7 : Hp}, Inv X (pins ++ pinsAt fp s5.heap) σ7 H7 s7 → N σ7 H7 → ∃ m, m < n ∧ ∃ i σ' H', Inv X pins σ' H' s7 ∧ tn i s7.heap ∧ (∀ b ∈ fp, H' b = none) ∧ W i m σ' H' := fun {σ7 H7} I7 n7 => by
      obtain ⟨m', hm, w7⟩ := hN σ7 H7 n7
      refine ⟨m', hm, i + 1, σ7, H7, I7.unpinned, T.keep _ _ _ st5 fun b hb o e => (I7.pin (b, o) (List.mem_append_right _ (List.mem_append_right _ (mem_pinsAt hb e)))).1, fun b hb => ?_, w7⟩
      obtain ⟨o, e, d⟩ := T.obj _ _ st5 b hb
      exact (I7.pin (b, o) (List.mem_append_right _ (List.mem_append_right _ (mem_pinsAt hb e)))).2.1
    cases f with
    | next => obtain ⟨σ7, H7, I7, n7⟩ := q7; exact again I7 n7
    | cont => obtain ⟨σ7, H7, I7, n7⟩ := q7; exact again I7 n7
    | brk => obtain ⟨σ7, H7, I7, q7⟩ := q7; exact ⟨σ7, H7, I7.unpinned, q7⟩
    | ret v => obtain ⟨x7, σ7, H7, I7, r7, q7⟩ := q7; exact ⟨x7, σ7, H7, I7.unpinned, r7, q7⟩
end
theorem for_tup {K : PySem.W.Frag} {a : Addr} {xs : List V} {g : TG} {tb : TS} {D : Ends} {σ : St} {H : Hp} (Pv : Nat → St → Hp → Prop) (h0 : Pv 0 σ H) (hl : ∀ i σ H, i ≤ xs.length → Pv i σ H → SqT K H a xs)
    (hs : ∀ i x σ H, xs[i]? = some x → Pv i σ H → g x σ H fun σ2 H2 => tb { D with nx := Pv (i + 1), ct := Pv (i + 1), bk := D.nx } σ2 H2) (hd : ∀ σ H, Pv xs.length σ H → D.nx σ H) :
    ∃ W : Nat → Nat → St → Hp → Prop, (∃ m, W 0 m σ H) ∧ ∀ i m σ H, W i m σ H →
      ((Itt K a).stop i H ∧ D.nx σ H) ∨ ((Itt K a).go i H ∧ ∃ N : St → Hp → Prop, (∀ σ' H', N σ' H' → ∃ m', m' < m ∧ W (i + 1) m' σ' H') ∧ ∀ x H', (Itt K a).yld i H x H' → g x σ H' fun σ2 H2 => tb { D with nx := N, ct := N, bk := D.nx } σ2 H2) := by
  refine ⟨fun i m σ H => m = xs.length - i ∧ i ≤ xs.length ∧ Pv i σ H, ⟨xs.length, by simp, Nat.zero_le _, h0⟩, ?_⟩
  rintro i m σ H ⟨rfl, hi, p⟩
  have q := hl i σ H hi p
  by_cases hlt : i < xs.length
  · refine .inr ⟨⟨xs, xs[i], q, by simp [hlt]⟩, Pv (i + 1), fun σ' H' p' => ⟨xs.length - (i + 1), by omega, rfl, hlt, p'⟩, fun x H' y => ?_⟩
    obtain ⟨e, y⟩ := y
    subst e
    exact hs i x σ _ (y xs q) p
  · have e : i = xs.length := by omega
    subst e
    exact .inl ⟨⟨xs, q, Nat.le_refl _⟩, hd σ H p⟩
theorem for_range {lo : Int} {n : Nat} {g : TG} {tb : TS} {D : Ends} {σ : St} {H : Hp} (Pv : Nat → St → Hp → Prop) (h0 : Pv 0 σ H)
    (hs : ∀ i σ H, i < n → Pv i σ H → g (.int (lo + i)) σ H fun σ2 H2 => tb { D with nx := Pv (i + 1), ct := Pv (i + 1), bk := D.nx } σ2 H2) (hd : ∀ σ H, Pv n σ H → D.nx σ H) :
    ∃ W : Nat → Nat → St → Hp → Prop, (∃ m, W 0 m σ H) ∧ ∀ i m σ H, W i m σ H →
      ((Itr lo n).stop i H ∧ D.nx σ H) ∨ ((Itr lo n).go i H ∧ ∃ N : St → Hp → Prop, (∀ σ' H', N σ' H' → ∃ m', m' < m ∧ W (i + 1) m' σ' H') ∧ ∀ x H', (Itr lo n).yld i H x H' → g x σ H' fun σ2 H2 => tb { D with nx := N, ct := N, bk := D.nx } σ2 H2) := by
  refine ⟨fun i m σ H => m = n - i ∧ i ≤ n ∧ Pv i σ H, ⟨n, by simp, Nat.zero_le _, h0⟩, ?_⟩
  rintro i m σ H ⟨rfl, hi, p⟩
  by_cases hlt : i < n
  · refine .inr ⟨hlt, Pv (i + 1), fun σ' H' p' => ⟨n - (i + 1), by omega, rfl, hlt, p'⟩, fun x H' y => ?_⟩
    obtain ⟨e, y⟩ := y
    subst e y
    exact hs i σ _ hlt p
  · have e : i = n := by omega
    subst e
    exact .inl ⟨Nat.le_refl _, hd σ H p⟩
end L2
namespace L2
open PySem PySem.Spec PyProof.Rows
abbrev R2 := V → V → Hp → VK → Prop
def OpR (X : Cx) (f : Value → Value → Sem Value) (r : R2) : Prop :=
  ∀ (pins : List (Addr × Obj)) (s : Shared) (σ : St) (H : Hp) (x y : V) (v u : Value) (Q : VK), Inv X pins σ H s → RelV x v → RelV y u → r x y H Q →
    wpAny (model X.prog X.w) X.A (f v u) (EP X pins σ Q) X.xe s
def CallR (X : Cx) (f : Value) (r : List V → Hp → VK → Prop) : Prop :=
  ∀ (pins : List (Addr × Obj)) (s : Shared) (σ : St) (H : Hp) (xs : List V) (us : List Value) (Q : VK), Inv X pins σ H s → Vals xs us → r xs H Q →
    wpAny (model X.prog X.w) X.A (call f us) (EP X pins σ Q) X.xe s
def tOp (r : R2) (ta tb : TE) : TE := fun σ H Q => ta σ H fun x H1 => tb σ H1 fun y H2 => r x y H2 Q
def rI (C : Int → Int → Prop) (g : Int → Int → V) : R2 := fun x y H Q => ∃ i j, x = .int i ∧ y = .int j ∧ C i j ∧ Q (g i j) H
def rI0 (g : Int → Int → V) : R2 := fun x y H Q => ∃ i j, x = .int i ∧ y = .int j ∧ Q (g i j) H
section
variable {X : Cx} {a b c : Expr} {ta tb tc : TE} {pos : Pos}
theorem binT (ha : PE X a ta) (hb : PE X b tb) {pins : List (Addr × Obj)} {s : Shared} {σ : St} {H : Hp} {R : V → V → Hp → Prop} (I : Inv X pins σ H s)
    (h : ta σ H fun x H1 => tb σ H1 fun y H2 => R x y H2) {Q : Value → Shared → Prop} {f : Value → Value → Sem Value}
    (hf : ∀ v u s2 x y H2, Inv X pins σ H2 s2 → RelV x v → RelV y u → R x y H2 → wpAny (model X.prog X.w) X.A (f v u) Q X.xe s2) :
    wpAny (model X.prog X.w) X.A (eval a X.env) (fun v s₁ => wpAny (model X.prog X.w) X.A (eval b X.env) (fun u s₂ => wpAny (model X.prog X.w) X.A (f v u) Q X.xe s₂) X.xe s₁) X.xe s := by
  refine thn (ha pins s σ H _ I h) fun v s1 ⟨x, H1, I1, r1, q1⟩ => ?_
  refine thn (hb pins s1 σ H1 _ I1 q1) fun u s2 ⟨y, H2, I2, r2, q2⟩ => ?_
  exact hf v u s2 x y H2 I2 r1 r2 q2
theorem pe_op {op : Operator} {r : R2} (ho : OpR X (binaryOp op) r) (ha : PE X a ta) (hb : PE X b tb) : PE X (.BinOp a op b pos) (tOp r ta tb) := by
  intro pins s σ H Q I h
  exact wpAny_BinOp (binT ha hb I h fun v u s2 x y H2 I2 rx ry q => ho pins s2 σ H2 x y v u Q I2 rx ry q)
theorem opI {f : Value → Value → Sem Value} {C : Int → Int → Prop} {g : Int → Int → Int}
    (rule : ∀ (i j : Int) (t u : Tok) (s : Shared) (Q : Value → Shared → Prop) (E : Value → Shared → Prop), C i j → Q (.int (g i j) s.toks) { s with toks := s.toks + 1 } → wpAny (model X.prog X.w) X.A (f (.int i t) (.int j u)) Q E s) :
    OpR X f (rI C fun i j => .int (g i j)) := by
  intro pins s σ H x y v u Q I rx ry h
  obtain ⟨i, j, rfl, rfl, hc, q⟩ := h
  obtain ⟨t, rfl⟩ := rx
  obtain ⟨t', rfl⟩ := ry
  exact rule i j t t' s _ _ hc ⟨.int (g i j), H, I.tok _, ⟨_, rfl⟩, q⟩
theorem opI0 {f : Value → Value → Sem Value} {g : Int → Int → Int}
    (rule : ∀ (i j : Int) (t u : Tok) (s : Shared) (Q : Value → Shared → Prop) (E : Value → Shared → Prop), Q (.int (g i j) s.toks) { s with toks := s.toks + 1 } → wpAny (model X.prog X.w) X.A (f (.int i t) (.int j u)) Q E s) :
    OpR X f (rI0 fun i j => .int (g i j)) := by
  intro pins s σ H x y v u Q I rx ry h
  obtain ⟨i, j, rfl, rfl, q⟩ := h
  obtain ⟨t, rfl⟩ := rx
  obtain ⟨t', rfl⟩ := ry
  exact rule i j t t' s _ _ ⟨.int (g i j), H, I.tok _, ⟨_, rfl⟩, q⟩
theorem opB0 {f : Value → Value → Sem Value} {g : Int → Int → Bool}
    (rule : ∀ (i j : Int) (t u : Tok) (s : Shared) (Q : Value → Shared → Prop) (E : Value → Shared → Prop), Q (.bool (g i j)) s → wpAny (model X.prog X.w) X.A (f (.int i t) (.int j u)) Q E s) :
    OpR X f (rI0 fun i j => .bl (g i j)) := by
  intro pins s σ H x y v u Q I rx ry h
  obtain ⟨i, j, rfl, rfl, q⟩ := h
  obtain ⟨t, rfl⟩ := rx
  obtain ⟨t', rfl⟩ := ry
  exact rule i j t t' s _ _ ⟨.bl (g i j), H, I, rfl, q⟩
def CMul (i j : Int) : Prop := (-(2 ^ 64) < i ∧ i < 2 ^ 64) ∨ (-(2 ^ 64) < j ∧ j < 2 ^ 64)
theorem CMul.ok {i j : Int} (h : CMul i j) : IntMulOk i j := by
  rcases h with ⟨h1, h2⟩ | ⟨h1, h2⟩
  · exact .of_left (intBits_le_64 h1 h2)
  · exact .of_right (intBits_le_64 h1 h2)
theorem op_add : OpR X (binaryOp .Add) (rI0 fun i j => .int (i + j)) := opI0 fun _ _ _ _ _ _ _ q => add_int q
theorem op_sub : OpR X (binaryOp .Sub) (rI0 fun i j => .int (i - j)) := opI0 fun _ _ _ _ _ _ _ q => sub_int q
theorem op_mul : OpR X (binaryOp .Mult) (rI CMul fun i j => .int (i * j)) := opI fun _ _ _ _ _ _ _ hc q => mul_int q hc.ok
theorem op_mod : OpR X (binaryOp .Mod) (rI (fun _ j => 0 < j) fun i j => .int (i % j)) := opI fun i j _ _ _ _ _ hc q => by
  have h1 : (0 : Int) < j := hc
  exact mod_int' (by omega) (by rw [Int.fmod_eq_emod_of_nonneg i (by omega)]; exact q)
end
def scal : V → V → Bool
  | .non, .non => true | .non, .int _ => true | .int _, .non => true | .non, .bl _ => true | .bl _, .non => true | .non, .str _ => true | .str _, .non => true
  | .int _, .int _ => true | .bl _, .bl _ => true | .str _, .str _ => true | .byt _, .byt _ => true
  | .int _, .str _ => true | .str _, .int _ => true | .bl _, .str _ => true | .str _, .bl _ => true
  | _, _ => false
def rEq : R2 := fun x y H Q => scal x y = true ∧ Q (.bl (decide (x = y))) H
def rNe : R2 := fun x y H Q => scal x y = true ∧ Q (.bl (!decide (x = y))) H
theorem dec_int {i j : Int} : decide (V.int i = V.int j) = (i == j) := by
  rw [Bool.eq_iff_iff]
  simp
theorem dec_bl {i j : Bool} : decide (V.bl i = V.bl j) = (i == j) := by
  rw [Bool.eq_iff_iff]
  simp
theorem dec_str {i j : Str} : decide (V.str i = V.str j) = (i == j) := by
  rw [Bool.eq_iff_iff]
  simp
theorem dec_byt {i j : Array UInt8} : decide (V.byt i = V.byt j) = (i.toList == j.toList) := by
  rw [Bool.eq_iff_iff]
  cases i
  cases j
  simp
section
variable {X : Cx} {a b c : Expr} {ta tb tc : TE} {pos : Pos}
theorem fin_bl {pins : List (Addr × Obj)} {σ : St} {H : Hp} {s : Shared} {Q : VK} {k k' : Bool} (I : Inv X pins σ H s) (q : Q (.bl k) H) (e : k = k') : EP X pins σ Q (.bool k') s := by
  subst e
  exact ⟨.bl k, H, I, rfl, q⟩
theorem op_eq : OpR X (compareOp .Eq) rEq := by
  intro pins s σ H x y v u Q I rx ry h
  obtain ⟨hs, q⟩ := h
  cases x with
  | non =>
    cases rx
    cases y with
    | non => cases ry; exact PySem.EqNone.eq_none_none (fin_bl I q (by simp))
    | bl j => cases ry; exact PySem.EqNone.eq_none_bool (fin_bl I q (by simp))
    | int j => obtain ⟨t', rfl⟩ := ry; exact PySem.EqNone.eq_none_int (fin_bl I q (by simp))
    | str j => obtain ⟨t', rfl⟩ := ry; exact PySem.EqNone.eq_none_str (fin_bl I q (by simp))
    | _ => exact absurd (show false = true from hs) Bool.false_ne_true
  | bl i =>
    cases rx
    cases y with
    | non => cases ry; exact PySem.EqNone.eq_bool_none (fin_bl I q (by simp))
    | bl j => cases ry; exact eq_bool (fin_bl I q dec_bl)
    | str j => obtain ⟨t', rfl⟩ := ry; exact PySem.EqMixed.eq_bool_str (fin_bl I q (by simp))
    | _ => exact absurd (show false = true from hs) Bool.false_ne_true
  | int i =>
    obtain ⟨t, rfl⟩ := rx
    cases y with
    | non => cases ry; exact PySem.EqNone.eq_int_none (fin_bl I q (by simp))
    | int j => obtain ⟨t', rfl⟩ := ry; exact eq_int (fin_bl I q dec_int)
    | str j => obtain ⟨t', rfl⟩ := ry; exact PySem.EqMixed.eq_int_str (fin_bl I q (by simp))
    | _ => exact absurd (show false = true from hs) Bool.false_ne_true
  | str i =>
    obtain ⟨t, rfl⟩ := rx
    cases y with
    | non => cases ry; exact PySem.EqNone.eq_str_none (fin_bl I q (by simp))
    | bl j => cases ry; exact PySem.EqMixed.eq_str_bool (fin_bl I q (by simp))
    | int j => obtain ⟨t', rfl⟩ := ry; exact PySem.EqMixed.eq_str_int (fin_bl I q (by simp))
    | str j => obtain ⟨t', rfl⟩ := ry; exact eq_str (fin_bl I q dec_str)
    | _ => exact absurd (show false = true from hs) Bool.false_ne_true
  | byt i =>
    obtain ⟨t, rfl⟩ := rx
    cases y with
    | byt j => obtain ⟨t', rfl⟩ := ry; exact PySem.W.eq_bytes (fin_bl I q dec_byt)
    | _ => exact absurd (show false = true from hs) Bool.false_ne_true
  | _ => cases y <;> exact absurd (show false = true from hs) Bool.false_ne_true
theorem op_ne : OpR X (compareOp .NotEq) rNe := by
  intro pins s σ H x y v u Q I rx ry h
  obtain ⟨hs, q⟩ := h
  cases x with
  | non =>
    cases rx
    cases y with
    | non => cases ry; exact PySem.EqNone.ne_none_none (fin_bl I q (by simp))
    | bl j => cases ry; exact PySem.EqNone.ne_none_bool (fin_bl I q (by simp))
    | int j => obtain ⟨t', rfl⟩ := ry; exact PySem.EqNone.ne_none_int (fin_bl I q (by simp))
    | str j => obtain ⟨t', rfl⟩ := ry; exact PySem.EqNone.ne_none_str (fin_bl I q (by simp))
    | _ => exact absurd (show false = true from hs) Bool.false_ne_true
  | bl i =>
    cases rx
    cases y with
    | non => cases ry; exact PySem.EqNone.ne_bool_none (fin_bl I q (by simp))
    | bl j => cases ry; exact ne_bool (fin_bl I q (congrArg not dec_bl))
    | str j => obtain ⟨t', rfl⟩ := ry; exact PySem.EqMixed.ne_bool_str (fin_bl I q (by simp))
    | _ => exact absurd (show false = true from hs) Bool.false_ne_true
  | int i =>
    obtain ⟨t, rfl⟩ := rx
    cases y with
    | non => cases ry; exact PySem.EqNone.ne_int_none (fin_bl I q (by simp))
    | int j => obtain ⟨t', rfl⟩ := ry; exact ne_int (fin_bl I q (congrArg not dec_int))
    | str j => obtain ⟨t', rfl⟩ := ry; exact PySem.EqMixed.ne_int_str (fin_bl I q (by simp))
    | _ => exact absurd (show false = true from hs) Bool.false_ne_true
  | str i =>
    obtain ⟨t, rfl⟩ := rx
    cases y with
    | non => cases ry; exact PySem.EqNone.ne_str_none (fin_bl I q (by simp))
    | bl j => cases ry; exact PySem.EqMixed.ne_str_bool (fin_bl I q (by simp))
    | int j => obtain ⟨t', rfl⟩ := ry; exact PySem.EqMixed.ne_str_int (fin_bl I q (by simp))
    | str j => obtain ⟨t', rfl⟩ := ry; exact ne_str (fin_bl I q (congrArg not dec_str))
    | _ => exact absurd (show false = true from hs) Bool.false_ne_true
  | byt i =>
    obtain ⟨t, rfl⟩ := rx
    cases y with
    | byt j => obtain ⟨t', rfl⟩ := ry; exact PySem.W.ne_bytes (fin_bl I q (congrArg not dec_byt))
    | _ => exact absurd (show false = true from hs) Bool.false_ne_true
  | _ => cases y <;> exact absurd (show false = true from hs) Bool.false_ne_true
theorem op_lt : OpR X (compareOp .Lt) (rI0 fun i j => .bl (decide (i < j))) := opB0 fun _ _ _ _ _ _ _ q => lt_int q
theorem op_le : OpR X (compareOp .LtE) (rI0 fun i j => .bl (decide (i ≤ j))) := opB0 fun _ _ _ _ _ _ _ q => le_int q
theorem op_gt : OpR X (compareOp .Gt) (rI0 fun i j => .bl (decide (j < i))) := opB0 fun _ _ _ _ _ _ _ q => gt_int q
theorem op_in_str : OpR X (compareOp .In) (fun x y H Q => ∃ i j, x = .str i ∧ y = .str j ∧ Q (.bl (!(Builtin.Str.occurrences j i 0 j.length 1).isEmpty)) H) := by
  intro pins s σ H x y v u Q I rx ry h
  obtain ⟨i, j, rfl, rfl, q⟩ := h
  obtain ⟨t, rfl⟩ := rx
  obtain ⟨t', rfl⟩ := ry
  exact in_str (fin_bl I q rfl)
theorem op_notin_str : OpR X (compareOp .NotIn) (fun x y H Q => ∃ i j, x = .str i ∧ y = .str j ∧ Q (.bl (!(!(Builtin.Str.occurrences j i 0 j.length 1).isEmpty))) H) := by
  intro pins s σ H x y v u Q I rx ry h
  obtain ⟨i, j, rfl, rfl, q⟩ := h
  obtain ⟨t, rfl⟩ := rx
  obtain ⟨t', rfl⟩ := ry
  exact notIn_str (fin_bl I q rfl)
theorem nomark (b : Expr) {op : CmpOp} (h : op ≠ .In := by decide) (h2 : op ≠ .NotIn := by decide) : behindInMarks op b = false := by
  have e1 : (op == CmpOp.In) = false := by cases op <;> first | rfl | exact absurd rfl h
  have e2 : (op == CmpOp.NotIn) = false := by cases op <;> first | rfl | exact absurd rfl h2
  cases b <;> simp [behindInMarks, e1, e2]
theorem pe_cmpR {op : CmpOp} {r : R2} (ho : OpR X (compareOp op) r) (ha : PE X a ta) (hb : PE X b tb) (hm : behindInMarks op b = false) : PE X (.Compare a [op] [b] pos) (tOp r ta tb) := by
  intro pins s σ H Q I h
  exact wpAny_Compare1 (binT ha hb I h fun v u s2 x y H2 I2 rx ry q => ho pins s2 σ H2 x y v u Q I2 rx ry q) hm
def tTest (t : TE) : TT := fun σ H Q => t σ H fun x H' => ∃ k, x = .bl k ∧ Q k H'
theorem pt_cmpR {op : CmpOp} {r : R2} (ho : OpR X (compareOp op) r) (ha : PE X a ta) (hb : PE X b tb) (hm : behindInMarks op b = false) : PT X (.Compare a [op] [b] pos) (tTest (tOp r ta tb)) := by
  intro pins s σ H Q I h
  refine wpAny_isTrue_Compare1 (thn (ha pins s σ H _ I h) fun v s1 ⟨x, H1, I1, r1, q1⟩ => thn (hb pins s1 σ H1 _ I1 q1) fun u s2 ⟨y, H2, I2, r2, q2⟩ =>
    thn (ho pins s2 σ H2 x y v u _ I2 r1 r2 q2) fun c s3 ⟨z, H3, I3, r3, k, e, q3⟩ => ?_) hm
  subst e
  cases r3
  exact wpAny_truthy_bool ⟨H3, I3, q3⟩
def tChain (r r' : R2) (ta tb tc : TE) : TE := fun σ H Q => ta σ H fun x H1 => tb σ H1 fun y H2 => r x y H2 fun z H3 => ∃ k, z = .bl k ∧
  (if k = true then tc σ H3 fun w' H4 => r' y w' H4 Q else Q (.bl false) H3)
theorem pe_chain {op op' : CmpOp} {r r' : R2} (ho : OpR X (compareOp op) r) (ho' : OpR X (compareOp op') r') (ha : PE X a ta) (hb : PE X b tb) (hc : PE X c tc)
    (hm : lastMarks [op, op'] [b, c] = false := by with_unfolding_all rfl) : PE X (.Compare a [op, op'] [b, c] pos) (tChain r r' ta tb tc) := by
  intro pins s σ H Q I h
  refine Compare_chain (thn (ha pins s σ H _ I h) fun v s1 ⟨x, H1, I1, r1, q1⟩ => chain_link (thn (hb pins s1 σ H1 _ I1 q1) fun u s2 ⟨y, H2, I2, r2, q2⟩ =>
    thn (ho pins s2 σ H2 x y v u _ I2 r1 r2 q2) fun d s3 ⟨z, H3, I3, r3, k, e, q3⟩ => ?_)) hm
  subst e
  cases r3
  refine wpAny_truthy_bool ?_
  cases k with
  | false => exact ite_ff ⟨.bl false, H3, I3, rfl, q3⟩
  | true => exact ite_tt (chain_last (thn (hc pins s3 σ H3 _ I3 q3) fun w' s4 ⟨z', H4, I4, r4, q4⟩ => ho' pins s4 σ H4 y z' u w' Q I4 r2 r4 q4))
theorem line63 : (sizeLine : Nat) < 2 ^ 63 := by rw [sizeLine_eq]; decide
theorem op_add_str : OpR X (binaryOp .Add) (fun x y H Q => ∃ i j, x = .str i ∧ y = .str j ∧ i.length + j.length ≤ sizeLine ∧ Q (.str (i ++ j)) H) := by
  intro pins s σ H x y v u Q I rx ry h
  obtain ⟨i, j, rfl, rfl, hz, q⟩ := h
  obtain ⟨t, rfl⟩ := rx
  obtain ⟨t', rfl⟩ := ry
  exact add_str (fun t' tk => ⟨.str (i ++ j), H, I.tok _, ⟨_, rfl⟩, q⟩) hz
theorem vals1 {x : V} {us : List Value} (r : Vals [x] us) : ∃ u, us = [u] ∧ RelV x u := by
  cases r with
  | cons r1 r2 => cases r2; exact ⟨_, rfl, r1⟩
theorem vals2 {x y : V} {us : List Value} (r : Vals [x, y] us) : ∃ u w', us = [u, w'] ∧ RelV x u ∧ RelV y w' := by
  cases r with
  | cons r1 r2 =>
    cases r2 with
    | cons r3 r4 => cases r4; exact ⟨_, _, rfl, r1, r3⟩
theorem call_str_int : CallR X (.type "str") (fun xs H Q => ∃ i, xs = [.int i] ∧ i.natAbs.log2 < 1920 ∧ Q (.str (toString i)) H) := by
  intro pins s σ H xs us Q I r h
  obtain ⟨i, rfl, hz, q⟩ := h
  obtain ⟨u, rfl, t, rfl⟩ := vals1 r
  exact PySem.P.str_of_int hz ⟨.str _, H, I.tok _, ⟨_, rfl⟩, q⟩
end
end L2
namespace L2
open PySem PySem.Spec PyProof.Rows
structure ObjM (h : Heap) (x dx C : Addr) (mA : Str → Option Value) : Prop where
  obj : h.get? x = some (PySem.W.instObj C dx)
  ns : h.Ns1 dx mA
  ne : dx ≠ x
theorem lookIn_ns {h : Heap} {dx : Addr} {mA : Str → Option Value} (n : h.Ns1 dx mA) : ∃ od, h.get? dx = some od ∧ ∀ name, PySem.W.lookIn name od = some (mA name) := by
  obtain ⟨o, es, ep, ho, hd, hk, _, hm⟩ := n
  refine ⟨o, ho, fun name => ?_⟩
  have e := hm name
  unfold nsFind findBy at e
  rw [← Array.find?_toList] at e
  unfold PySem.W.lookIn
  rw [hd]
  dsimp only
  split
  · rename_i y q
    rw [q] at e
    exact congrArg some e
  · rename_i q
    rw [q] at e
    have a : es.toList.any (·.refKey) = false := by
      rw [List.any_eq_false]
      intro y hy
      obtain ⟨z, t, hkey⟩ := hk y (Array.mem_toList_iff.mp hy)
      simp [DictEntry.refKey, hkey]
    have a' : ¬ es.toList.any (·.refKey) = true := by rw [a]; exact Bool.false_ne_true
    rw [if_neg a']
    exact congrArg some e
theorem ObjM.look {h : Heap} {x dx C : Addr} {mA : Str → Option Value} (I : ObjM h x dx C mA) : ∃ od, PySem.W.InstAt h x (PySem.W.instObj C dx) C (some od) ∧ ∀ name, PySem.W.lookIn name od = some (mA name) :=
  let ⟨od, ho, hl⟩ := lookIn_ns I.ns
  ⟨od, ⟨I.obj, rfl, rfl, ho⟩, hl⟩
section
variable {prog : Program} {w : World} {A : Around} {E : Value → Shared → Prop} {s : Shared} {K : PySem.W.Frag} {x dx C f : Addr} {mA : Str → Option Value} {name : Str} {v : Value}
end
theorem RelO.none_of {o : Option Value} (r : RelO none o) : o = none := by
  cases o with
  | none => rfl
  | some u => exact (show False from r).elim
section
variable {P : Program} {w : World} {H H' : Hp} {h h' : Heap} {a C dx : Addr} {fs fs' : List (Str × V)}
theorem ins_get (hok : HOk P w H h) (e : H a = some (.ins C dx fs)) : ∃ mA, ObjM h a dx C mA ∧ (∀ f, RelO (fs.lookup f) (mA f)) ∧ PySem.Within mA (fs.map (·.1)) ∧ fs.length ≤ 1000 ∧ H dx = some (.own a) := by
  obtain ⟨d, z, ne, ob, mA, n, r, q⟩ := (show ObjOk P w H h a (.ins C dx fs) from hok a _ e)
  exact ⟨mA, ⟨ob, n, ne⟩, r, q, z, d⟩
end
structure Cls (K : PySem.W.Frag) (C : Addr) : Prop where
  pg : PySem.W.plainGet K C Str.empty = true
  hd : PySem.W.hasDictIn K C = true
  po : PySem.W.plainOver K C = true
  sa : PySem.W.findIn K (.ref C) "__setattr__" = some (some (.builtin "object.__setattr__"))
theorem Cls.get {K : PySem.W.Frag} {C : Addr} (c : Cls K C) (f : Str) : PySem.W.plainGet K C f = true := c.pg
structure Con (K : PySem.W.Frag) (C : Addr) (f : Str) (v : V) (u : Value) : Prop where
  at_ : PySem.W.findIn K (.ref C) f = some (some u)
  rel : RelV v u
  get : PySem.W.specialIn K u "__get__" = some none
  cp : PySem.W.copiedNames.contains f = false
structure Meth (K : PySem.W.Frag) (C : Addr) (m : Str) (f : Addr) : Prop where
  at_ : PySem.W.findIn K (.ref C) m = some (some (.ref f))
  fn : PySem.W.isFn K (.ref f) = true
  kp : PySem.W.keepIn K (.ref f) = true
section
variable {X : Cx} {pins : List (Addr × Obj)} {σ : St} {H : Hp} {s : Shared} {a C dx : Addr} {fs : List (Str × V)} {f : Str} {v : V} {A : Around} {E : Value → Shared → Prop}
theorem Inv.made (I : Inv X pins σ H s) : Inv X pins σ (upd (upd H s.heap.objs.size (.own (s.heap.objs.size + 1))) (s.heap.objs.size + 1) (.ins C s.heap.objs.size []))
    { s with heap := (s.heap.push PySem.W.emptyDict).push (PySem.W.instObj C s.heap.objs.size) } := by
  have e1 : (s.heap.push PySem.W.emptyDict).get? s.heap.objs.size = some PySem.W.emptyDict := Heap.get?_push_size s.heap rfl
  have e2 : ((s.heap.push PySem.W.emptyDict).push (PySem.W.instObj C s.heap.objs.size)).get? (s.heap.objs.size + 1) = some (PySem.W.instObj C s.heap.objs.size) := by
    have := Heap.get?_push_size (s.heap.push PySem.W.emptyDict) (o := PySem.W.instObj C s.heap.objs.size) rfl
    rwa [Heap.size_push] at this
  have e3 : (s.heap.push PySem.W.emptyDict).Ns s.heap.objs.size (fun _ => none) := ⟨PySem.W.emptyDict, #[], _, e1, rfl, (fun e he => absurd he (by simp)), fun _ => rfl⟩
  have I1 := I.laid (a := s.heap.objs.size) (o := .own (s.heap.objs.size + 1)) (h' := s.heap.push PySem.W.emptyDict) (t' := s.toks) (fun b u q => Heap.get?_push_of_some _ q) (Nat.le_refl _) ⟨_, e1⟩
  refine I1.laid (a := s.heap.objs.size + 1) (o := .ins C s.heap.objs.size []) (t' := s.toks) (fun b u q => Heap.get?_push_of_some _ q) (Nat.le_of_eq (Heap.size_push _ _)) ?_
  have ne : s.heap.objs.size ≠ s.heap.objs.size + 1 := Nat.ne_of_lt (Nat.lt_succ_self _)
  refine ⟨by rw [upd_ne ne, upd_same], Nat.zero_le _, ne, e2, fun _ => none, (Heap.Ns1.of_empty e3).at fun o q => Heap.get?_push_of_some _ q, fun _ => True.intro, fun y hy => absurd rfl hy⟩
end
section
variable {X : Cx} {o e value : Expr} {f : Str} {pos pos' tpos : Pos} {ta tv : TE}
end
section
variable {X : Cx} {pins : List (Addr × Obj)} {σ : St} {H : Hp} {s : Shared} {A : Around} {E : Value → Shared → Prop} {Q : Value → Shared → Prop} {c : Value} {b : Bool}
inductive TyOf (K : PySem.W.Frag) (H : Hp) : V → Value → Prop where
  | non : TyOf K H .non (.type "NoneType")
  | bl (x : Bool) : TyOf K H (.bl x) (.type "bool")
  | int (i : Int) : TyOf K H (.int i) (.type "int")
  | str (x : Str) : TyOf K H (.str x) (.type "str")
  | flt (x : UInt64) : TyOf K H (.flt x) (.type "float")
  | lst {a : Addr} {xs : List V} (e : H a = some (.lst xs)) : TyOf K H (.ref a) (.type "list")
  | frz {a : Addr} {o : Obj} {xs : List V} (e : H a = some (.frz o (.lst xs))) : TyOf K H (.ref a) (.type "list")
  | tup {a : Addr} {xs : List V} (e : H a = some (.tup xs)) : TyOf K H (.ref a) (.type "tuple")
  | dK {a : Addr} {kvs : List (Key × V)} (e : H a = some (.dK kvs)) : TyOf K H (.ref a) (.type "dict")
  | dT {a : Addr} {kvs : List (List Key × V)} (e : H a = some (.dT kvs)) : TyOf K H (.ref a) (.type "dict")
  | ins {a C dx : Addr} {fs : List (Str × V)} (e : H a = some (.ins C dx fs)) (cl : Cls K C) (ha : PySem.W.findIn K (.ref C) "__class__" = some (some (.builtin "object.__class__")))
      (hn : PySem.W.specialIn K (.builtin "object.__class__") "__get__" = some (some (.builtin "getset_descriptor.__get__"))) (htk : PySem.W.takesIn K (.builtin "object.__class__") = some true)
      (hm : PySem.W.mroIn K C (.type "object") = some true) : TyOf K H (.ref a) (.ref C)
theorem isinst_ok {x : V} {u t : Value} (I : Inv X pins σ H s) (rx : RelV x u) (ty : TyOf X.K H x t) (e : PySem.W.kitOne X.K t c = some b) (h : ∀ tk, Q (.bool b) { s with toks := tk }) :
    wpAny (model X.prog X.w) A (call (.builtin "isinstance") [u, c]) Q E s := by
  cases ty with
  | non => cases (show u = Value.none from rx); exact PySem.W.kia_one PySem.W.kitx_none I.kIn True.intro e (fun z => nomatch z) h
  | bl y => cases (show u = Value.bool y from rx); exact PySem.W.kia_one PySem.W.kitx_bool I.kIn True.intro e (fun z => nomatch z) h
  | int i => obtain ⟨t, q⟩ := (show ∃ t, u = Value.int i t from rx); cases q; exact PySem.W.kia_one PySem.W.kitx_int I.kIn True.intro e (fun z => nomatch z) h
  | str y => obtain ⟨t, q⟩ := (show ∃ t, u = Value.str y t from rx); cases q; exact PySem.W.kia_one PySem.W.kitx_str I.kIn True.intro e (fun z => nomatch z) h
  | flt y => obtain ⟨t, q⟩ := (show ∃ t, u = Value.float y t from rx); cases q; exact PySem.W.kia_one PySem.W.kitx_float I.kIn True.intro e (fun z => nomatch z) h
  | @lst a xs ea =>
    cases (show u = Value.ref a from rx)
    obtain ⟨_, _, n, _, h1⟩ := (show ObjOk X.prog X.w H s.heap a (.lst xs) from I.hok a _ ea)
    exact PySem.W.kia_one PySem.W.kitx_list I.kIn ⟨_, h1, rfl⟩ e (fun z => nomatch z) h
  | @frz a ob xs ea =>
    cases (show u = Value.ref a from rx)
    obtain ⟨_, _, _, n, _, h1⟩ := (show ObjOk X.prog X.w H s.heap a (.frz ob (.lst xs)) from I.hok a _ ea)
    exact PySem.W.kia_one PySem.W.kitx_list I.kIn ⟨_, h1, rfl⟩ e (fun z => nomatch z) h
  | @tup a xs ea =>
    cases (show u = Value.ref a from rx)
    obtain ⟨_, _, _, p⟩ := (show ObjOk X.prog X.w H s.heap a (.tup xs) from I.hok a _ ea)
    obtain ⟨o, h1, h2, _⟩ := p
    exact PySem.W.kia_one PySem.W.kitx_tuple I.kIn ⟨o, h1, h2⟩ e (fun z => nomatch z) h
  | @dK a kvs ea =>
    cases (show u = Value.ref a from rx)
    obtain ⟨_, _, vs, _, p⟩ := (show ObjOk X.prog X.w H s.heap a (.dK kvs) from I.hok a _ ea)
    obtain ⟨o, es, ep, h1, h2, _⟩ := p
    exact PySem.W.kia_one PySem.W.kitx_dict I.kIn ⟨o, h1, h2.1⟩ e (fun z => nomatch z) h
  | @dT a kvs ea =>
    cases (show u = Value.ref a from rx)
    obtain ⟨_, _, xs, _, o, es, ep, h1, h2, _⟩ := (show ObjOk X.prog X.w H s.heap a (.dT kvs) from I.hok a _ ea)
    exact PySem.W.kia_one PySem.W.kitx_dict I.kIn ⟨o, h1, h2.1⟩ e (fun z => nomatch z) h
  | @ins a C dx fs ea cl ha hn htk hm =>
    cases (show u = Value.ref a from rx)
    obtain ⟨mA, O, _⟩ := ins_get I.hok ea
    obtain ⟨od, J, _⟩ := O.look
    exact PySem.W.kia_one (PySem.W.kitx_own (cl.get _) cl.hd ha hn htk hm) I.kIn J e (fun z => nomatch z) h
end
end L2
namespace L2
open PySem PySem.Spec PyProof.Rows
structure Room (k : Nat) (A : Around) : Prop where
  hd : A.handled = none
  dp : A.depth + 3 * k + 5 < recursionLimit
  un : A.units + 16 * k + 200 < cLine
theorem Room.mono {j k : Nat} {A : Around} (r : Room k A) (h : j ≤ k) : Room j A := ⟨r.hd, by have := r.dp; omega, by have := r.un; omega⟩
theorem Room.deeper {k : Nat} {A : Around} (r : Room (k + 1) A) (env : Env) : Room k (A.deeper env) :=
  ⟨r.hd, by have := r.dp; show A.depth + 1 + 3 * k + 5 < _; omega, by have := r.un; show A.units + 3 + 16 * k + 200 < _; omega⟩
theorem Room.in1 {k : Nat} {A : Around} (r : Room (k + 1) A) : Room k A.in1 :=
  ⟨r.hd, by have := r.dp; show A.depth + 3 * k + 5 < _; omega, by have := r.un; show A.units + 1 + 16 * k + 200 < _; omega⟩
theorem make_depth {A : Around} {C : Addr} {us : List Value} {kw : List (Str × Value)} : (A.under (.builtin "type.__call__" ⟨.ref C :: us, kw⟩)).depth = A.depth + 1 := by
  first | rfl | simp [Around.under, Code.weight, Code.isCreation, Code.isGuard, Code.isCaller, Code.frames, Code.isFrame, guardIds]
theorem make_units {A : Around} {C : Addr} {us : List Value} {kw : List (Str × Value)} : (A.under (.builtin "type.__call__" ⟨.ref C :: us, kw⟩)).units = A.units + 1 := by
  first | rfl | simp [Around.under, Code.cUnits, Code.frames, Code.isFrame]
theorem Room.make {k : Nat} {A : Around} (r : Room (k + 1) A) (C : Addr) (us : List Value) (kw : List (Str × Value)) : Room k (A.under (.builtin "type.__call__" ⟨.ref C :: us, kw⟩)) :=
  ⟨r.hd, by have := r.dp; rw [make_depth]; omega, by have := r.un; rw [make_units]; omega⟩
theorem Room.depth {k : Nat} {A : Around} (r : Room k A) : A.depth < recursionLimit := by have := r.dp; omega
theorem Room.units {k : Nat} {A : Around} (r : Room k A) : A.units + 64 < cLine := by have := r.un; omega
def tNil : TA := fun _ H Q => Q [] H
def tCons (ta : TE) (tr : TA) : TA := fun σ H Q => ta σ H fun x H1 => tr σ H1 fun xs H2 => Q (x :: xs) H2
section
variable {X : Cx} {e : Expr} {es : List Expr} {te : TE} {t : TA} {pos : Pos}
theorem pa_nil : PA X [] tNil := fun _ _ _ _ H Q I h => Calls.spliced_nil ⟨[], H, I, .nil, h⟩
theorem pa_cons (ha : PE X e te) (hr : PA X es t) (hs : starEach (e :: es) X.env = (false, eval e X.env) :: starEach es X.env := by rfl) : PA X (e :: es) (tCons te t) := by
  intro pos pins s σ H Q I h
  rw [hs]
  show wpAny _ _ (spliced ((false, eval e X.env) :: backTo pos (starEach es X.env))) _ _ s
  refine Calls.spliced_cons (thn (ha pins s σ H _ I h) fun u s1 ⟨x, H1, I1, r1, q1⟩ => ?_)
  exact thn (hr pos pins s1 σ H1 _ I1 q1) fun us s2 ⟨xs, H2, I2, r2, q2⟩ => ⟨x :: xs, H2, I2, .cons r1 r2, q2⟩
end
abbrev Sp := List V → Hp → VK → XK → Prop
abbrev CXT := List Env → Hp → Shared → XK → Value → Shared → Prop
structure Env0 (P : Program) (w : World) (K : PySem.W.Frag) (mg : Str → Option Value) (base : Heap) (A : Around) (outer : List Env) (s : Shared) (H : Hp) : Prop where
  frames : A.frames = some outer
  mod : Mod K mg base
  bs : ∀ b o, base.get? b = some o → s.heap.get? b = some o ∧ H b = none
  bsz : base.objs.size ≤ s.heap.objs.size
  funs : s.heap.FunFrames base outer
  frf : ∀ b ∈ frs outer, H b = none
  hok : HOk P w H s.heap
  bare : AllBare s.gens
def CE (outer : List Env) (P : Program) (w : World) (H : Hp) (s : Shared) (Q : VK) (u : Value) (s' : Shared) : Prop :=
  ∃ v H', s'.os = s.os ∧ AllBare s'.gens ∧ Un (frs outer) [] H H' s.heap s'.heap ∧ HOk P w H' s'.heap ∧ RelV v u ∧ Q v H'
def CR (CX : CXT) (outer : List Env) (P : Program) (w : World) (H : Hp) (s : Shared) (Q : VK) (E : XK) (r : Result) (s' : Shared) : Prop :=
  match r with
  | .ok (.ret u) => CE outer P w H s Q u s'
  | .ok _ => False
  | .error e => CX outer H s E e s'
structure FnOk (P : Program) (w : World) (K : PySem.W.Frag) (mg : Str → Option Value) (base : Heap) (CX : CXT) (k : Nat) (f : Addr) (fd : FuncData) (ps : List Str) (sp : Sp) : Prop where
  len : ∀ vs H Q E, sp vs H Q E → vs.length = ps.length
  run : ∀ (A : Around) (outer : List Env) (s : Shared) (H : Hp) (args : Args) (us : List Value) (vs : List V) (Q : VK) (E : XK), Room k A → Env0 P w K mg base A outer s H → BindsTo s fd args (ps.zip us) → Vals vs us → sp vs H Q E →
    codeAny (model P w) A (.call (.ref f) args) (CR CX outer P w H s Q E) s
theorem FnOk.mono {P : Program} {w : World} {K : PySem.W.Frag} {mg : Str → Option Value} {base : Heap} {CX : CXT} {j k : Nat} {f : Addr} {fd : FuncData} {ps : List Str} {sp : Sp} (F : FnOk P w K mg base CX j f fd ps sp) (h : j ≤ k) :
    FnOk P w K mg base CX k f fd ps sp := ⟨F.len, fun A outer s H args us vs Q E hr => F.run A outer s H args us vs Q E (hr.mono h)⟩
theorem FnOk.imp {P : Program} {w : World} {K : PySem.W.Frag} {mg : Str → Option Value} {base : Heap} {CX : CXT} {k : Nat} {f : Addr} {fd : FuncData} {ps : List Str} {sp sp' : Sp} (F : FnOk P w K mg base CX k f fd ps sp)
    (h : ∀ vs H Q E, sp' vs H Q E → sp vs H Q E) : FnOk P w K mg base CX k f fd ps sp' :=
  ⟨fun vs H Q E q => F.len vs H Q E (h _ _ _ _ q), fun A outer s H args us vs Q E hr he hb hv hs => F.run A outer s H args us vs Q E hr he hb hv (h _ _ _ _ hs)⟩
theorem Env0.make {P : Program} {w : World} {K : PySem.W.Frag} {mg : Str → Option Value} {base : Heap} {A : Around} {outer : List Env} {s : Shared} {H : Hp} (e : Env0 P w K mg base A outer s H) (C : Addr) (us : List Value) (kw : List (Str × Value)) :
    Env0 P w K mg base (A.under (.builtin "type.__call__" ⟨.ref C :: us, kw⟩)) outer s H := ⟨by first | exact e.frames | (simpa [Around.under, Code.envs, Code.isFrame, pushEnvs] using e.frames), e.mod, e.bs, e.bsz, e.funs, e.frf, e.hok, e.bare⟩
theorem Env0.in1 {P : Program} {w : World} {K : PySem.W.Frag} {mg : Str → Option Value} {base : Heap} {A : Around} {outer : List Env} {s : Shared} {H : Hp} (e : Env0 P w K mg base A outer s H) :
    Env0 P w K mg base A.in1 outer s H := ⟨e.frames, e.mod, e.bs, e.bsz, e.funs, e.frf, e.hok, e.bare⟩
section
variable {X : Cx} {pins : List (Addr × Obj)} {σ : St} {H : Hp} {s s' : Shared}
theorem Inv.env0 (I : Inv X pins σ H s) : Env0 X.prog X.w X.K X.mg X.base X.A X.stack s H :=
  ⟨I.ok.frames, I.ok.mod, I.bs, Nat.le_trans I.ok.bsz I.sz, I.stack, I.stkFree, I.hok, I.bare⟩
theorem Inv.after {Q : VK} {u : Value} (I : Inv X pins σ H s) (h : CE X.stack X.prog X.w H s Q u s') : EP X pins σ Q u s' := by
  obtain ⟨v, H', os, bare, un, hok, r, q⟩ := h
  obtain ⟨hh, g, d, t, os'⟩ := s'
  obtain rfl : os' = s.os := os
  exact ⟨v, H', I.call (h' := hh) (g' := g) (d' := d) (t' := t) (ch := []) un hok bare (fun b z => absurd z (by simp)), r, q⟩
end
def tCall (sp : Sp) (dvs : List V) (E : XK) (t : TA) : TE := fun σ H Q => t σ H fun vs H1 => sp (vs ++ dvs) H1 Q E
def Binds (K : PySem.W.Frag) (fd : FuncData) (ps : List Str) (ds : List Value) : Prop :=
  ∀ (s : Shared) (us : List Value), K.In s.heap → (us ++ ds).length = ps.length → BindsTo s fd ⟨us, []⟩ (ps.zip (us ++ ds))
theorem Binds.all {K : PySem.W.Frag} {fd : FuncData} {ps : List Str} (h : ∀ us : List Value, us.length = ps.length → bindArgs fd ⟨us, []⟩ = pure (ps.zip us)) : Binds K fd ps [] := fun s us _ hl => by
  rw [List.append_nil] at hl ⊢
  exact .of_eq (h us hl)
def Passes (CX : CXT) (X : Cx) (E : XK) : Prop := ∀ (pins : List (Addr × Obj)) (σ : St) (H : Hp) (s : Shared) (e : Value) (s' : Shared), Inv X pins σ H s → CX X.stack H s E e s' → X.xe e s'
section
variable {X : Cx} {CX : CXT} {k : Nat} {f C : Addr} {fd : FuncData} {ps : List Str} {sp : Sp} {dvs : List V} {ds : List Value} {E : XK} {x m : Str} {p pos apos : Pos} {e o : Expr} {es : List Expr} {ta : TE} {t : TA}
theorem run_fn {pins : List (Addr × Obj)} {σ : St} {H : Hp} {s : Shared} {Q : VK} {us : List Value} {vs : List V} (F : FnOk X.prog X.w X.K X.mg X.base CX k f fd ps sp) (hr : Room k X.A) (hb : Binds X.K fd ps ds) (hd : Vals dvs ds) (hx : Passes CX X E)
    (I : Inv X pins σ H s) (r : Vals vs us) (h : sp (vs ++ dvs) H Q E) : wpAny (model X.prog X.w) X.A (call (.ref f) us) (EP X pins σ Q) X.xe s := by
  have r2 : Vals (vs ++ dvs) (us ++ ds) := r.append hd
  have hl : (us ++ ds).length = ps.length := by rw [← r2.length]; exact F.len _ _ _ _ h
  refine wpAny_call (codeAny_mono (F.run X.A X.stack s H ⟨us, []⟩ (us ++ ds) (vs ++ dvs) Q E hr I.env0 (hb s us I.kIn hl) r2 h) fun r s' hq => ?_)
  cases r with
  | error e => exact hx pins σ H s e s' I hq
  | ok fl =>
    cases fl with
    | ret u => exact I.after hq
    | next => exact False.elim hq
    | brk => exact False.elim hq
    | cont => exact False.elim hq
theorem pe_call (F : FnOk X.prog X.w X.K X.mg X.base CX k f fd ps sp) (hr : Room k X.A) (hg : Gl X x) (hm : X.mg x = some (.ref f)) (hk : PySem.W.keepIn X.K (.ref f) = true) (hb : Binds X.K fd ps ds) (hd : Vals dvs ds) (hx : Passes CX X E)
    (ha : PA X (e :: es) t) (hdb : (x == ("__debug__" : Str)) = false := by decide) (he : starEach (e :: es) X.env = (false, eval e X.env) :: starEach es X.env := by rfl) (hpl : (backTo pos (starEach es X.env)).any (·.1) = false := by rfl) :
    PE X (.Call (.Name x p) (e :: es) [] pos) (tCall sp dvs E t) := by
  intro pins s σ H Q I h
  refine wpAny_Call_Name_kw (ld_glob I hg hm ?_ hdb)
  refine PySem.W.callWith_K (h₀ := X.base) I.ok.mod.kin hk (thn (ha pos pins s σ H _ I h) fun us s1 ⟨vs, H1, I1, r, q⟩ => ⟨I1.kIn, ?_⟩) he hpl
  exact run_fn F hr hb hd hx I1 r q
structure Mk (K : PySem.W.Frag) (C f : Addr) : Prop where
  makes : PySem.W.makesIn K C = true
  init : PySem.W.findIn K (.ref C) "__init__" = some (some (.ref f))
  fn : PySem.W.isFn K (.ref f) = true
  kp : PySem.W.keepIn K (.ref C) = true
end
section
variable {X : Cx} {CX : CXT} {k : Nat} {f C : Addr} {fd : FuncData} {ps ks : List Str} {sp : Sp} {E : XK} {x m : Str} {p pos apos kpos : Pos} {e o : Expr} {es : List Expr} {kws : List Keyword} {te ta : TE} {t tk : TA} {nm : Option Str}
structure KBinds (K : PySem.W.Frag) (fd : FuncData) (ps ks : List Str) (g : List Value → List Value → List Value) (gV : List V → List V → List V) : Prop where
  to : ∀ (s : Shared) (us ws : List Value), K.In s.heap → (g us ws).length = ps.length → BindsTo s fd ⟨us, ks.zip ws⟩ (ps.zip (g us ws))
  rel : ∀ {vs : List V} {us : List Value} {zs : List V} {ws : List Value}, Vals vs us → Vals zs ws → Vals (gV vs zs) (g us ws)
variable {g : List Value → List Value → List Value} {gV : List V → List V → List V}
end
structure FnScope (N P : List Str) (sc : Scope) : Prop where
  kind : sc.kind = .function
  co : sc.isCoroutine = false
  gen : sc.isGenerator = false
  nd : N.Nodup
  pre : N.take P.length = P
  par : ∀ x ∈ P, sc.names.lookup x = some .local ∨ sc.names.lookup x = some .cell
  nofree : ∀ y ∈ sc.names, y.2 ≠ .free
theorem bindL_out {kindOf : Str → Option NameKind} {x : Str} : ∀ {binds : List (Str × Value)} {m : Str → Option Value}, (∀ v, (x, v) ∉ binds) → bindL kindOf binds m x = m x
  | [], _, _ => rfl
  | (n, v) :: r, m, h => by
    unfold bindL
    rw [bindL_out fun w hw => h w (List.mem_cons_of_mem _ hw)]
    split
    · have : x ≠ n := by rintro rfl; exact h v List.mem_cons_self
      simp [this]
    · rfl
theorem bindC_out {kindOf : Str → Option NameKind} {x : Str} : ∀ {binds : List (Str × Value)} {m : Str → Option Value}, (∀ v, (x, v) ∉ binds) → bindC kindOf binds m x = m x
  | [], _, _ => rfl
  | (n, v) :: r, m, h => by
    unfold bindC
    rw [bindC_out fun w hw => h w (List.mem_cons_of_mem _ hw)]
    split
    · rfl
    · have : x ≠ n := by rintro rfl; exact h v List.mem_cons_self
      simp [this]
theorem bindL_get {kindOf : Str → Option NameKind} {x : Str} {v : Value} : ∀ {P : List Str} {vs : List Value} {i : Nat} {m : Str → Option Value}, P.Nodup → P[i]? = some x → vs[i]? = some v → kindOf x = some .local →
    bindL kindOf (P.zip vs) m x = some v
  | [], _, _, _, _, h, _, _ => by simp at h
  | _ :: _, [], _, _, _, _, h, _ => by simp at h
  | p :: P, w :: vs, 0, m, nd, h1, h2, hk => by
    simp at h1 h2; subst h1; subst h2
    show bindL kindOf ((p, w) :: P.zip vs) m p = _
    unfold bindL
    rw [bindL_out fun v hv => (List.nodup_cons.mp nd).1 (List.of_mem_zip hv).1, if_pos hk]
    simp
  | p :: P, w :: vs, i + 1, m, nd, h1, h2, hk => by
    show bindL kindOf ((p, w) :: P.zip vs) m x = _
    unfold bindL
    exact bindL_get (i := i) (List.nodup_cons.mp nd).2 (by simpa using h1) (by simpa using h2) hk
theorem bindC_get {kindOf : Str → Option NameKind} {x : Str} {v : Value} : ∀ {P : List Str} {vs : List Value} {i : Nat} {m : Str → Option Value}, P.Nodup → P[i]? = some x → vs[i]? = some v → kindOf x ≠ some .local →
    bindC kindOf (P.zip vs) m x = some v
  | [], _, _, _, _, h, _, _ => by simp at h
  | _ :: _, [], _, _, _, _, h, _ => by simp at h
  | p :: P, w :: vs, 0, m, nd, h1, h2, hk => by
    simp at h1 h2; subst h1; subst h2
    show bindC kindOf ((p, w) :: P.zip vs) m p = _
    unfold bindC
    rw [bindC_out fun v hv => (List.nodup_cons.mp nd).1 (List.of_mem_zip hv).1, if_neg hk]
    simp
  | p :: P, w :: vs, i + 1, m, nd, h1, h2, hk => by
    show bindC kindOf ((p, w) :: P.zip vs) m x = _
    unfold bindC
    exact bindC_get (i := i) (List.nodup_cons.mp nd).2 (by simpa using h1) (by simpa using h2) hk
def start (N : List Str) (vs : List V) : St := vs.map some ++ List.replicate (N.length - vs.length) none
def cxOf (CX : CXT) (P : Program) (w : World) (K : PySem.W.Frag) (mg : Str → Option Value) (base : Heap) (N : List Str) (qual : Str) (scope : Scope) (f : Addr) (cd : Value) (A : Around) (outer : List Env) (s : Shared) (H : Hp) (E : XK) : Cx where
  prog := P
  w := w
  K := K
  mg := mg
  base := base
  A := A.deeper (envOfC qual scope s.heap.objs.size f cd)
  N := N
  s₀ := s
  H₀ := H
  env := envOfC qual scope s.heap.objs.size f cd
  outer := outer
  stack := envOfC qual scope s.heap.objs.size f cd :: outer
  ex := []
  calm := true
  fn := fun _ => true
  pn := []
  xe := fun e s' => wpAny (model P w) (A.deeper (envOfC qual scope s.heap.objs.size f cd)) (leaving (envOfC qual scope s.heap.objs.size f cd) e) (fun _ s'' => CX outer H s E e s'') (fun e' s'' => CX outer H s E e' s'') s'
theorem cell_has {sc : Scope} {n : Nat} {x : Str} (h : sc.names.lookup x = some .cell) : ∃ c, (cellsFrom n sc.names []).lookup x = some c := by
  have q := PySem.W.cellsFrom_some sc.names n [] (.inl h)
  exact Option.isSome_iff_exists.mp q
theorem inv_start {CX : CXT} {P : Program} {w : World} {K : PySem.W.Frag} {mg : Str → Option Value} {base : Heap} {N ps : List Str} {qual : Str} {scope : Scope} {f : Addr} {cd : Value} {A : Around} {outer : List Env} {s s1 : Shared} {H : Hp} {E : XK} {us : List Value} {vs : List V}
    (S : FnScope N ps scope) (hd : A.handled = none) (e0 : Env0 P w K mg base A outer s H) (hl : vs.length = ps.length) (r : Vals vs us)
    (x : InCallC s s.heap.objs.size (bindL (envOfC qual scope s.heap.objs.size f cd).kindOf (ps.zip us) fun _ => none) (cellsFrom (s.heap.objs.size + 1) scope.names []) (bindC (envOfC qual scope s.heap.objs.size f cd).kindOf (ps.zip us) fun _ => none) s1) :
    Inv (cxOf CX P w K mg base N qual scope f cd A outer s H E) [] (start N vs) H s1 := by
  have hpl : ps.length ≤ N.length := by have := congrArg List.length S.pre; rw [List.length_take] at this; omega
  obtain ⟨h1, tk, rfl, hk⟩ := x.done
  have noA : ∀ b : Addr, b ∉ (cxOf CX P w K mg base N qual scope f cd A outer s H E).ex := fun b z => absurd (show b ∈ ([] : List Addr) from z) (by simp)
  refine ⟨⟨e0.mod, S.kind, rfl, rfl, Nat.le_refl _, fun y z c h1 h2 => ?_, fun y hy => ?_, fun y c _ h => ?_, fun _ => hd, Around.frames_deeper e0.frames, .inr ⟨rfl, rfl⟩, fun b z => absurd z (noA b), e0.bs, e0.bsz, fun b _ _ => noA b, fun b z => absurd z (noA b), e0.funs, e0.frf⟩,
    rfl, e0.bare, Un.kept hk, ⟨_, x.toInCall.ns, fun i y v h1 h2 h3 => ?_⟩, fun y c h => ⟨_, x.cell y c h⟩, e0.hok.fresh (Nat.le_refl _), fun y c h => ?_, fun p hp => absurd (show p ∈ ([] : List (Addr × Obj)) from hp) (by simp), e0.hok.kept hk, ?_⟩
  · exact name_of_addr x.apart (PySem.mem_of_lookup h1) (PySem.mem_of_lookup h2)
  · have hy : scope.names.lookup y = some .cell ∨ scope.names.lookup y = some .free := hy
    rcases hy with hy | hy
    · exact cell_has hy
    · exact absurd rfl (S.nofree _ (PySem.mem_of_lookup hy))
  · exact Nat.le_of_lt (x.above y c (PySem.mem_of_lookup h))
  · have hi : i < vs.length := by
      unfold start at h2
      by_cases hi : i < vs.length
      · exact hi
      · rw [List.getElem?_append_right (by simpa using hi)] at h2
        rw [List.getElem?_replicate] at h2
        split at h2 <;> cases h2
    have ha : vs[i]? = some v := by
      unfold start at h2
      rw [List.getElem?_append_left (by simpa using hi), List.getElem?_map] at h2
      cases e : vs[i]? with
      | none => rw [e] at h2; cases h2
      | some a => rw [e] at h2; cases h2; rfl
    obtain ⟨u, hu, rv⟩ := r.get ha
    have hp : ps[i]? = some y := by
      rw [← S.pre, List.getElem?_take_of_lt (by omega)]; exact h1
    have ndP : ps.Nodup := by rw [← S.pre]; exact S.nd.sublist (List.take_sublist _ _)
    refine ⟨u, rv, ?_⟩
    rcases S.par y (List.mem_of_getElem? hp) with k | k
    · exact .inl ⟨k, bindL_get ndP hp hu k⟩
    · obtain ⟨c, e⟩ := cell_has (n := s.heap.objs.size + 1) k
      refine .inr ⟨.inl k, c, e, ?_⟩
      have q := x.cell y c e
      rw [bindC_get ndP hp hu (by show scope.names.lookup y ≠ _; rw [k]; decide)] at q
      exact q
  · exact e0.hok.fresh (Nat.le_of_lt (x.above y c (PySem.mem_of_lookup h)))
  · unfold start
    show _ = N.length
    rw [List.length_append, List.length_map, List.length_replicate]
    omega
theorem fn_of {CX : CXT} {P : Program} {w : World} {K : PySem.W.Frag} {mg : Str → Option Value} {base : Heap} {k : Nat} {f : Addr} {name qual : Str} {params : Arguments} {body : List Stmt} {scope : Scope} {dV kV doc pm cdv ct oc : Value} {an od : Option Addr}
    {osl : Array (Option Value)} {N ps : List Str} {sp : Sp} (lk : K.lookup f = some ⟨oc, od, .func (PySem.W.fnOf name qual params body scope dV kV doc pm an cdv ct), osl⟩) (hcd : PySem.W.codeIn K cdv qual = true) (S : FnScope N ps scope)
    (len : ∀ vs H Q E, sp vs H Q E → vs.length = ps.length)
    (hbody : ∀ (A : Around) (outer : List Env) (s : Shared) (H : Hp) (vs : List V) (Q : VK) (E : XK), Room k (A.deeper (envOfC qual scope s.heap.objs.size f cdv)) → sp vs H Q E →
      ∃ t, PSs (cxOf CX P w K mg base N qual scope f cdv A outer s H E) body t ∧ t { nx := fun _ H' => Q .non H', rt := Q } (start N vs) H) :
    FnOk P w K mg base CX (k + 1) f (PySem.W.fnOf name qual params body scope dV kV doc pm an cdv ct) ps sp := by
  refine ⟨len, fun A outer s H args us vs Q E hr e0 hb r hsp => ?_⟩
  have hl := len _ _ _ _ hsp
  have KX : K.In s.heap := e0.mod.kin.keeps fun b o e => (e0.bs b o e).1
  have lim : s.heap.NoLimit := e0.mod.nolimit.keeps fun b o e => (e0.bs b o e).1
  have hkind : ∀ y ∈ ps.zip us, scope.names.lookup y.1 = some .local ∨ (scope.names.lookup y.1 = some .cell ∧ ((cellsFrom (s.heap.objs.size + 1) scope.names []).lookup y.1).isSome = true) := fun ⟨n, v⟩ hy => by
    rcases S.par n (List.of_mem_zip hy).1 with q | q
    · exact .inl q
    · exact .inr ⟨q, PySem.W.cellsFrom_some _ _ _ (.inl q)⟩
  refine codeAny_call_function hr.depth (KX _ _ lk) rfl S.co S.gen rfl (PySem.W.codeRec_of KX hcd) (hb _ _ _ _ ?_)
  refine wpAny_newFunctionEnv_cells S.kind hkind fun env he s1 x => ?_
  subst he
  refine ⟨lim.keeps x.toInCall.keep, codeAny_func ?_⟩
  obtain ⟨t, ht, hq⟩ := hbody A outer s H vs Q E (hr.deeper _) hsp
  have I : Inv (cxOf CX P w K mg base N qual scope f cdv A outer s H E) [] (start N vs) H s1 := inv_start S hr.hd e0 hl r x
  refine wpAny_mono (ht [] s1 (start N vs) H _ I hq) (fun fl s' hs => ?_) fun e s' hs => hs
  have fin : ∀ {σ' : St} {H' : Hp} {v : V} {u : Value}, Inv (cxOf CX P w K mg base N qual scope f cdv A outer s H E) [] σ' H' s' → RelV v u → Q v H' → CE outer P w H s Q u s' :=
    fun {σ' H' v u} J rv q => ⟨v, H', J.os, J.bare, J.base, J.hok, rv, q⟩
  cases fl with
  | ret u =>
    obtain ⟨v, σ', H', J, rv, q⟩ := hs
    exact fin J rv q
  | next =>
    obtain ⟨σ', H', J, q⟩ := hs
    exact fin (v := V.non) (u := Value.none) J rfl q
  | brk =>
    obtain ⟨_, _, _, q⟩ := hs
    exact False.elim q
  | cont =>
    obtain ⟨_, _, _, q⟩ := hs
    exact False.elim q
end L2
namespace L2
open PySem PySem.Spec PyProof.Rows
section
variable {X : Cx} {x : Str} {p pos : Pos} {e : Expr} {es : List Expr} {t : TA} {id T : String} {r : List V → Hp → VK → Prop}
def tCB (r : List V → Hp → VK → Prop) (t : TA) : TE := fun σ H Q => t σ H fun vs H1 => r vs H1 Q
theorem pe_callB (hc : CallR X (.builtin id) r) (hg : Gl X x) (hm : X.mg x = none) (hv : bootBuiltins x = some (.builtin id)) (ha : PA X (e :: es) t) (hn : x ≠ "__name__" := by decide) (hdb : (x == ("__debug__" : Str)) = false := by decide)
    (he : starEach (e :: es) X.env = (false, eval e X.env) :: starEach es X.env := by rfl) (hpl : (backTo pos (starEach es X.env)).any (·.1) = false := by rfl) : PE X (.Call (.Name x p) (e :: es) [] pos) (tCB r t) := by
  intro pins s σ H Q I h
  refine wpAny_Call_Name_kw (ld_blt I hg hm hv ?_ hn hdb)
  exact PyProof.Rows.callWith_builtin1 (thn (ha pos pins s σ H _ I h) fun us s1 ⟨vs, H1, I1, r1, q1⟩ => hc pins s1 σ H1 vs us Q I1 r1 q1) he hpl
theorem pe_callTy (hc : CallR X (.type T) r) (hg : Gl X x) (hm : X.mg x = none) (hv : bootBuiltins x = some (.type T)) (ha : PA X (e :: es) t) (hn : x ≠ "__name__" := by decide) (hdb : (x == ("__debug__" : Str)) = false := by decide)
    (he : starEach (e :: es) X.env = (false, eval e X.env) :: starEach es X.env := by rfl) (hpl : (backTo pos (starEach es X.env)).any (·.1) = false := by rfl) : PE X (.Call (.Name x p) (e :: es) [] pos) (tCB r t) := by
  intro pins s σ H Q I h
  refine wpAny_Call_Name_kw (ld_blt I hg hm hv ?_ hn hdb)
  exact PyProof.Rows.callWith_type1 (thn (ha pos pins s σ H _ I h) fun us s1 ⟨vs, H1, I1, r1, q1⟩ => hc pins s1 σ H1 vs us Q I1 r1 q1) he hpl
end
end L2
namespace HT
open PySem PyProof.Rows
section
open PySem.SeqAt
open PySem.AutoSeq1 (wpAny_loadPart')
open PySem.MeetsSeq PySem.MeetsSeq2 PySem.MeetsSeq3
end
section
variable {prog : Program} {w : World} {A : Around} {E : Value → Shared → Prop} {s : Shared}
def sIx (n d : Nat) : Option Int → Nat
  | none => d
  | some v => if v < 0 then (v + (n : Int)).toNat else min v.toNat n
theorem sIx_none (n d : Nat) : sIx n d none = d := rfl
theorem sIx_nat (n d k : Nat) : sIx n d (some (k : Int)) = min k n := by
  show (if (k : Int) < 0 then ((k : Int) + (n : Int)).toNat else min (k : Int).toNat n) = min k n
  rw [if_neg (by omega), Int.toNat_natCast]
end
end HT
namespace L2
open PySem PySem.Spec PyProof.Rows
abbrev TO := St → Hp → (Option Int → Hp → Prop) → Prop
def PO (X : Cx) (e : Option Expr) (t : TO) : Prop :=
  ∀ (pins : List (Addr × Obj)) (s : Shared) (σ : St) (H : Hp) (Q : Option Int → Hp → Prop), Inv X pins σ H s → t σ H Q →
    wpAny (model X.prog X.w) X.A (evalPart e X.env) (fun u s' => ∃ o H', Inv X pins σ H' s' ∧ IsPart u o ∧ Q o H') X.xe s
def tNoPart : TO := fun _ H Q => Q none H
def tPart (t : TE) : TO := fun σ H Q => t σ H fun x H1 => ∃ i, x = .int i ∧ Q (some i) H1
section
variable {X : Cx} {e : Expr} {te : TE} {lo hi : Option Expr} {tl th : TO} {pos p2 : Pos}
theorem po_none : PO X none tNoPart := by
  intro pins s σ H Q I h
  rw [evalPart_none]
  exact wpAny_pure ⟨none, H, I, .none, h⟩
theorem po_some (h : PE X e te) : PO X (some e) (tPart te) := by
  intro pins s σ H Q I hw
  rw [evalPart_some]
  refine thn (h pins s σ H _ I hw) fun u s1 ⟨x, H1, I1, r1, q1⟩ => ?_
  obtain ⟨i, rfl, q⟩ := q1
  obtain ⟨t, rfl⟩ := r1
  exact ⟨some i, H1, I1, .int i t, q⟩
def SlR (X : Cx) (r : V → Option Int → Option Int → Hp → VK → Prop) : Prop :=
  ∀ (pins : List (Addr × Obj)) (s : Shared) (σ : St) (H : Hp) (x : V) (v vl vu : Value) (lo hi : Option Int) (sl : Addr) (Q : VK), Inv X pins σ H s → RelV x v → s.heap.IsSliceOf sl vl vu .none → IsPart vl lo → IsPart vu hi → r x lo hi H Q →
    ∃ T id, typeLookup (.type T) "__getitem__" = pure (some (.builtin id)) ∧ s.TypeIs v T ∧ wpAny (model X.prog X.w) X.A (getItem v (.ref sl)) (EP X pins σ Q) X.xe s
def tSl (r : V → Option Int → Option Int → Hp → VK → Prop) (te : TE) (tl th : TO) : TE := fun σ H Q => te σ H fun x H1 => tl σ H1 fun l H2 => th σ H2 fun u H3 => r x l u H3 Q
theorem pe_slice {r : V → Option Int → Option Int → Hp → VK → Prop} (hr : SlR X r) (he : PE X e te) (hl : PO X lo tl) (hu : PO X hi th) : PE X (.Subscript e (.Slice lo hi none p2) pos) (tSl r te tl th) := by
  intro pins s σ H Q I h
  refine Subscript_ (thn (he pins s σ H _ I h) fun v s1 ⟨x, H1, I1, r1, q1⟩ => ?_)
  refine wpAny_Slice (thn (hl pins s1 σ H1 _ I1 q1) fun vl s2 ⟨l, H2, I2, pl, q2⟩ => thn (hu pins s2 σ H2 _ I2 q2) fun vu s3 ⟨u, H3, I3, pu, q3⟩ => ?_)
  rw [evalPart_none]
  refine wpAny_pure ?_
  have I4 : Inv X pins σ H3 { s3 with heap := s3.heap.push { cls := .type "slice", data := .fields #[vl, vu, .none] } } := I3.kept (t' := s3.toks) fun b ob q => Heap.get?_push_of_some _ q
  obtain ⟨T, id, hT, ht, hg⟩ := hr pins { s3 with heap := s3.heap.push { cls := .type "slice", data := .fields #[vl, vu, .none] } } σ H3 x v vl vu l u s3.heap.objs.size Q I4 r1 (Heap.IsSliceOf.new ..) pl pu q3
  show wpAny (model X.prog X.w) X.A (subscriptTail e (.Slice lo hi none p2) v (.ref s3.heap.objs.size)) (EP X pins σ Q) X.xe { s3 with heap := s3.heap.push { cls := .type "slice", data := .fields #[vl, vu, .none] } }
  exact tail_any (ops := [.ref s3.heap.objs.size, v]) ht hT hg (by with_unfolding_all rfl)
def cutV (xs : List V) (lo hi : Option Int) : List V := (xs.drop (HT.sIx xs.length 0 lo)).take (HT.sIx xs.length xs.length hi - HT.sIx xs.length 0 lo)
theorem cutV_length (xs : List V) (lo hi : Option Int) : (cutV xs lo hi).length ≤ xs.length := by
  unfold cutV
  rw [List.length_take, List.length_drop]
  omega
end
end L2
namespace L2
open PySem PySem.Spec PyProof.Rows
def ixN (n : Nat) (i : Int) : Option Nat := if 0 ≤ i then (if i < n then some i.toNat else none) else if -(n : Int) ≤ i then some (i + n).toNat else none
def atI {α : Type} (xs : List α) (i : Int) : Option α := (ixN xs.length i).bind fun j => xs[j]?
theorem ixN_seq {n : Nat} {i : Int} {j : Nat} (h : ixN n i = some j) : seqIndex? i n = some j ∧ j < n ∧ -(n : Int) ≤ i ∧ i < n := by
  unfold ixN at h
  by_cases h0 : 0 ≤ i
  · rw [if_pos h0] at h
    by_cases h1 : i < n
    · rw [if_pos h1] at h
      have e : i.toNat = j := Option.some.inj h
      exact ⟨by rw [seqIndex_of h0 h1, e], by omega, by omega, h1⟩
    · rw [if_neg h1] at h; cases h
  · rw [if_neg h0] at h
    by_cases h1 : -(n : Int) ≤ i
    · rw [if_pos h1] at h
      have e : (i + n).toNat = j := Option.some.inj h
      exact ⟨by rw [seqIndex_neg (by omega) h1, e], by omega, h1, by omega⟩
    · rw [if_neg h1] at h; cases h
theorem atI_get {α : Type} {xs : List α} {i : Int} {v : α} (h : atI xs i = some v) : ∃ j, seqIndex? i xs.length = some j ∧ xs[j]? = some v ∧ j < xs.length ∧ -(xs.length : Int) ≤ i ∧ i < xs.length := by
  unfold atI at h
  cases e : ixN xs.length i with
  | none => rw [e] at h; cases h
  | some j =>
    rw [e] at h
    obtain ⟨h1, h2, h3, h4⟩ := ixN_seq e
    exact ⟨j, h1, h, h2, h3, h4⟩
theorem atI_nat {α : Type} {xs : List α} {j : Nat} {v : α} (h : xs[j]? = some v) : atI xs (j : Int) = some v := by
  have hj : j < xs.length := (List.getElem?_eq_some_iff.mp h).1
  have e : ixN xs.length (j : Int) = some j := by
    unfold ixN
    rw [if_pos (by omega), if_pos (by omega)]; simp
  unfold atI; rw [e]; exact h
def PlainIx (b : Expr) : Prop := ∀ o i, subscripted b false o i = operate [o, i] (getItem o i)
def IxR (X : Cx) (r : R2) : Prop :=
  ∀ (value slice : Expr) (pins : List (Addr × Obj)) (s : Shared) (σ : St) (H : Hp) (x y : V) (v u : Value) (Q : VK), Inv X pins σ H s → RelV x v → RelV y u → r x y H Q →
    subscripted slice false v u = operate [v, u] (getItem v u) → wpAny (model X.prog X.w) X.A (subscriptTail value slice v u) (EP X pins σ Q) X.xe s
def MtR (X : Cx) (id : String) (r : V → List V → Hp → VK → Prop) : Prop :=
  ∀ (pins : List (Addr × Obj)) (s : Shared) (σ : St) (H : Hp) (x : V) (xs : List V) (v : Value) (us : List Value) (Q : VK), Inv X pins σ H s → RelV x v → Vals xs us → r x xs H Q →
    wpAny (model X.prog X.w) X.A (call (.builtin id) (v :: us)) (EP X pins σ Q) X.xe s
section
variable {X : Cx} {a b : Expr} {ta tb : TE} {pos : Pos}
theorem pe_ix {r : R2} (hr : IxR X r) (ha : PE X a ta) (hb : PE X b tb) (hs : PlainIx b) : PE X (.Subscript a b pos) (tOp r ta tb) := by
  intro pins s σ H Q I h
  exact Subscript_ (binT ha hb I h fun v u s2 x y H2 I2 rx ry q => hr a b pins s2 σ H2 x y v u Q I2 rx ry q (hs _ _))
def rIxL (K : PySem.W.Frag) : R2 := fun x y H Q => ∃ p xs i v, x = .ref p ∧ y = .int i ∧ SqL K H p xs ∧ atI xs i = some v ∧ Q v H
def rIxT (K : PySem.W.Frag) : R2 := fun x y H Q => ∃ p xs i v, x = .ref p ∧ y = .int i ∧ SqT K H p xs ∧ atI xs i = some v ∧ Q v H
def rIxS : R2 := fun x y H Q => ∃ z i c, x = .str z ∧ y = .int i ∧ z.length ≤ sizeLine ∧ atI z.cps.toList i = some c ∧ Q (.str ⟨#[c]⟩) H
theorem ix_list : IxR X (rIxL X.K) := by
  intro value slice pins s σ H x y v u Q I rx ry h hs
  obtain ⟨p, xs, i, z, rfl, rfl, hq, he, q⟩ := h
  cases rx
  obtain ⟨t, rfl⟩ := ry
  obtain ⟨its, r, pl, hz⟩ := I.list hq
  obtain ⟨j, h1, h2, h3, h4, h5⟩ := atI_get he
  obtain ⟨w, ew, rw'⟩ := r.get h2
  have hl := r.length
  have hn := line63
  have fin : EP X pins σ Q w s := ⟨z, H, I, rw', q⟩
  by_cases h0 : 0 ≤ i
  · have hj : i.toNat = j := by
      rw [seqIndex_of h0 h5] at h1
      exact Option.some.inj h1
    exact item_listR pl.isList h0 (by omega) (by rw [hj]; simpa using ew) fin hs
  · have hj : (i + (its.toArray.size : Int)).toNat = j := by
      rw [seqIndex_neg (by omega) h4] at h1
      rw [List.size_toArray, ← hl]
      exact Option.some.inj h1
    exact subscriptTail_builtinR (x := w) pl.isList.typeIs slot_list_getitem.lookup
      (wpAny_getItem_list_neg (Q := fun r s' => r = w ∧ EP X pins σ Q r s') pl.isList (by omega) (by rw [List.size_toArray] <;> omega) (by omega) (by rw [hj]; simpa using ew) ⟨rfl, fin⟩) hs
theorem ix_tup : IxR X (rIxT X.K) := by
  intro value slice pins s σ H x y v u Q I rx ry h hs
  obtain ⟨p, xs, i, z, rfl, rfl, hq, he, q⟩ := h
  cases rx
  obtain ⟨t, rfl⟩ := ry
  obtain ⟨its, r, pl, hz⟩ := I.tuple hq
  obtain ⟨j, h1, h2, h3, h4, h5⟩ := atI_get he
  obtain ⟨w, ew, rw'⟩ := r.get h2
  have hl := r.length
  have hn := line63
  have fin : EP X pins σ Q w s := ⟨z, H, I, rw', q⟩
  exact subscriptTail_builtinR (x := w) pl.typeIs slot_tuple_getitem.lookup
    (getItem_tuple (j := j) (Q := fun r s' => r = w ∧ EP X pins σ Q r s') pl (by omega) (by omega) (by rw [List.size_toArray, ← hl]; exact h1) (by simpa using ew) ⟨rfl, fin⟩) hs
theorem ix_str : IxR X rIxS := by
  intro value slice pins s σ H x y v u Q I rx ry h hs
  obtain ⟨z, i, c, rfl, rfl, hz, he, q⟩ := h
  obtain ⟨t, rfl⟩ := rx
  obtain ⟨t', rfl⟩ := ry
  obtain ⟨j, h1, h2, h3, h4, h5⟩ := atI_get he
  have hl : z.cps.toList.length = z.length := by simp [Str.length]
  rw [hl] at h1 h4 h5
  have hn := line63
  exact tail_any (typeIs_str s z t) slot_str_getitem.lookup (getItem_str (c := c) (by
    have e1 : decide (i < -(2 ^ 63 : Int)) = false := decide_eq_false (by omega)
    have e2 : decide (i ≥ 2 ^ 63) = false := decide_eq_false (by omega)
    rw [e1, e2, Bool.or_false]) (by rw [h1]; simpa using h2) ⟨.str ⟨#[c]⟩, H, I.tok _, ⟨_, rfl⟩, q⟩) hs
theorem mapSeq_set (its : List Value) (n j : Nat) (u : Value) : Obj.mapSeq (·.setIfInBounds j u) { cls := .type "list", data := .seq its.toArray n } = { cls := .type "list", data := .seq (its.set j u).toArray n } := by
  simp [Obj.mapSeq]
theorem Inv.lst {pins : List (Addr × Obj)} {σ : St} {H : Hp} {s : Shared} {p : Addr} {xs : List V} (I : Inv X pins σ H s) (h : H p = some (.lst xs)) :
    ∃ (its : List Value) (n : Nat), Vals xs its ∧ s.heap.get? p = some { cls := .type "list", data := .seq its.toArray n } ∧ xs.length ≤ sizeLine := by
  obtain ⟨z, its, n, r, e⟩ := I.hok p _ h
  exact ⟨its, n, r, e, z⟩
theorem Inv.lstUpd {pins : List (Addr × Obj)} {σ : St} {H : Hp} {s : Shared} {p : Addr} {xs ys : List V} {its its' : List Value} {n n' : Nat} {f : Obj → Obj} (I : Inv X pins σ H s) (h : H p = some (.lst xs))
    (ho : s.heap.get? p = some { cls := .type "list", data := .seq its.toArray n }) (hf : f { cls := .type "list", data := .seq its.toArray n } = { cls := .type "list", data := .seq its'.toArray n' }) (r : Vals ys its') (hz : ys.length ≤ sizeLine) (t : Nat) :
    Inv X pins σ (upd H p (.lst ys)) { s with heap := s.heap.update p f, toks := t } := by
  have e : (s.heap.update p f).get? p = some { cls := .type "list", data := .seq its'.toArray n' } := by
    rw [Heap.get?_update_self f ho (by rw [hf] <;> rfl), hf]
  refine I.write (x := p) (e := p) (by rw [h]; trivial) (.inl rfl) (fun b u hb q => (Heap.get?_update_other _ _ (Ne.symm hb)).trans q) ⟨_, e⟩ ?_
  exact ⟨hz, its', n', r, e⟩
def rSetL : V → V → V → Hp → (Hp → Prop) → Prop := fun o i v H Q => ∃ p xs k j, o = .ref p ∧ i = .int k ∧ H p = some (.lst xs) ∧ ixN xs.length k = some j ∧ Q (upd H p (.lst (xs.set j v)))
theorem set_list : PSet X rSetL := by
  intro pins s σ H o i v ov iv u Q I ro ri rv h
  obtain ⟨p, xs, k, j, rfl, rfl, hp, hj, q⟩ := h
  cases ro
  obtain ⟨t, rfl⟩ := ri
  obtain ⟨its, n, r, ho, hz⟩ := I.lst hp
  obtain ⟨h1, h2, h3, h4⟩ := ixN_seq hj
  have hl := r.length
  have hn := line63
  have I' : Inv X pins σ (upd H p (.lst (xs.set j v))) { s with heap := s.heap.update p (Obj.mapSeq (·.setIfInBounds j u)) } :=
    I.lstUpd hp ho (mapSeq_set its n j u) (r.set rv j) (by rw [List.length_set]; exact hz) s.toks
  by_cases h0 : 0 ≤ k
  · have hk : k.toNat = j := by
      rw [seqIndex_of h0 h4] at h1
      exact Option.some.inj h1
    exact PySem.W.ki_setAt ho h0 (by omega) (by rw [List.size_toArray, ← hl]; exact h4) (by rw [hk]; exact ⟨_, I', q⟩)
  · have hk : (k + (its.toArray.size : Int)).toNat = j := by
      rw [seqIndex_neg (by omega) h3] at h1
      rw [List.size_toArray, ← hl]
      exact Option.some.inj h1
    exact PySem.W.ki_setBack ho (by omega) (by rw [List.size_toArray, ← hl]; exact h3) (by omega) (by rw [hk]; exact ⟨_, I', q⟩)
theorem slice_bounds (lo hi : Option Int) (n : Nat) : (sliceBounds lo hi none n).1 = ((HT.sIx n 0 lo : Nat) : Int) ∧ (sliceBounds lo hi none n).2.1 = ((HT.sIx n n hi : Nat) : Int) ∧ (sliceBounds lo hi none n).2.2 = 1 := by
  refine ⟨?_, ?_, rfl⟩
  · cases lo with
    | none => simp [sliceBounds, HT.sIx]
    | some i =>
      simp only [sliceBounds, HT.sIx, Option.getD_none, show (1 : Int) > 0 by decide, if_true]
      by_cases h : i < 0
      · simp only [h, if_true] <;> omega
      · simp only [h, if_false] <;> omega
  · cases hi with
    | none => simp [sliceBounds, HT.sIx]
    | some i =>
      simp only [sliceBounds, HT.sIx, Option.getD_none, show (1 : Int) > 0 by decide, if_true]
      by_cases h : i < 0
      · simp only [h, if_true] <;> omega
      · simp only [h, if_false] <;> omega
theorem slicePick_cut (its : List Value) (lo hi : Option Int) : slicePick its.toArray lo hi none = ((its.drop (HT.sIx its.length 0 lo)).take (HT.sIx its.length its.length hi - HT.sIx its.length 0 lo)).toArray := by
  obtain ⟨h1, h2, h3⟩ := slice_bounds lo hi its.toArray.size
  unfold slicePick
  rw [h1, h2, h3]
  simp only [sliceRange_one, pick_run, List.size_toArray] <;> rfl
def rSlL (K : PySem.W.Frag) : V → Option Int → Option Int → Hp → VK → Prop := fun x lo hi H Q => ∃ a xs, x = .ref a ∧ SqL K H a xs ∧ ∀ p, H p = none → Q (.ref p) (upd H p (.lst (cutV xs lo hi)))
theorem sl_list : SlR X (rSlL X.K) := by
  intro pins s σ H x v vl vu lo hi sl Q I rx hs pl pu h
  obtain ⟨a, xs, rfl, hx, q⟩ := h
  cases rx
  obtain ⟨its, r, ht, hz⟩ := I.list hx
  have hlen := r.length
  refine ⟨"list", _, slot_list_getitem.lookup, ht.isList.typeIs, ?_⟩
  refine wpAny_getItem_list_slice ht.isList hs pl pu .none (by simp) ?_ (by rw [List.size_toArray] <;> omega)
  rw [slicePick_cut, ← hlen]
  refine ⟨.ref s.heap.objs.size, _, I.laid (t' := s.toks) (o := .lst (cutV xs lo hi)) (fun b ob q => Heap.get?_push_of_some _ q) (Nat.le_refl _) ?_, rfl, q _ (I.hok.fresh (Nat.le_refl _))⟩
  exact ⟨Nat.le_trans (cutV_length xs lo hi) hz, _, 0, (r.drop (HT.sIx xs.length 0 lo)).take (HT.sIx xs.length xs.length hi - HT.sIx xs.length 0 lo), Heap.get?_push_size _ rfl⟩
def flatV : V → Bool
  | .non => true
  | .bl _ => true
  | .int _ => true
  | .str _ => true
  | _ => false
def eqV : V → V → Bool
  | .non, .non => true
  | .bl a, .bl b => a == b
  | .bl a, .int b => (if a then 1 else 0) == b
  | .int a, .bl b => a == (if b then 1 else 0)
  | .int a, .int b => a == b
  | .str a, .str b => a == b
  | _, _ => false
theorem eqAt_V {A : Around} {s : Shared} {y x : V} {u v : Value} (ry : RelV y u) (rx : RelV x v) (fy : flatV y = true) (fx : flatV x = true) : SeqAt.EqAt A s u v (eqV y x) := by
  cases y with
  | non =>
    cases ry
    cases x with
    | non => cases rx; exact SeqAt.EqAt.same _
    | bl b => cases rx; exact SeqAt.EqAt.none_bool b
    | int b => obtain ⟨t, rfl⟩ := rx; exact SeqAt.EqAt.none_int b t
    | str b => obtain ⟨t, rfl⟩ := rx; exact SeqAt.EqAt.none_str b t
    | _ => exact absurd (show false = true from fx) Bool.false_ne_true
  | bl a =>
    cases ry
    cases x with
    | non => cases rx; exact SeqAt.EqAt.bool_none a
    | bl b => cases rx; exact SeqAt.EqAt.bool_bool a b
    | int b => obtain ⟨t, rfl⟩ := rx; exact SeqAt.EqAt.bool_int a b t
    | str b => obtain ⟨t, rfl⟩ := rx; exact SeqAt.EqAt.bool_str a b t
    | _ => exact absurd (show false = true from fx) Bool.false_ne_true
  | int a =>
    obtain ⟨t', rfl⟩ := ry
    cases x with
    | non => cases rx; exact SeqAt.EqAt.int_none a t'
    | bl b => cases rx; exact SeqAt.EqAt.int_bool a t' b
    | int b => obtain ⟨t, rfl⟩ := rx; exact SeqAt.EqAt.int_int a t' b t
    | str b => obtain ⟨t, rfl⟩ := rx; exact SeqAt.EqAt.int_str a t' b t
    | _ => exact absurd (show false = true from fx) Bool.false_ne_true
  | str a =>
    obtain ⟨t', rfl⟩ := ry
    cases x with
    | non => cases rx; exact SeqAt.EqAt.str_none a t'
    | bl b => cases rx; exact SeqAt.EqAt.str_bool a t' b
    | int b => obtain ⟨t, rfl⟩ := rx; exact SeqAt.EqAt.str_int a t' b t
    | str b => obtain ⟨t, rfl⟩ := rx; exact SeqAt.EqAt.str_str a t' b t
    | _ => exact absurd (show false = true from fx) Bool.false_ne_true
  | _ => exact absurd (show false = true from fy) Bool.false_ne_true
def eqU (x : V) (u : Value) : Bool := match u with
  | .none => eqV .non x
  | .bool b => eqV (.bl b) x
  | .int i _ => eqV (.int i) x
  | .str z _ => eqV (.str z) x
  | _ => false
theorem eqU_of {x y : V} {u : Value} (r : RelV y u) (f : flatV y = true) : eqU x u = eqV y x := by
  cases y with
  | non => cases r; rfl
  | bl b => cases r; rfl
  | int i => obtain ⟨t, rfl⟩ := r; rfl
  | str z => obtain ⟨t, rfl⟩ := r; rfl
  | _ => exact absurd (show false = true from f) Bool.false_ne_true
theorem any_eqU {x : V} : ∀ {xs : List V} {us : List Value}, Vals xs us → xs.all flatV = true → us.any (eqU x) = xs.any fun y => eqV y x
  | _, _, .nil, _ => rfl
  | y :: xs, u :: us, .cons r t, f => by
    rw [List.all_cons, Bool.and_eq_true] at f
    rw [List.any_cons, List.any_cons, eqU_of r f.1, any_eqU t f.2]
theorem mem_eqAt {A : Around} {s : Shared} {x : V} {v : Value} (rx : RelV x v) (fx : flatV x = true) : ∀ {xs : List V} {us : List Value}, Vals xs us → xs.all flatV = true → ∀ u ∈ us, SeqAt.EqAt A s u v (eqU x u)
  | _, _, .nil, _ => fun u hu => by cases hu
  | y :: xs, u :: us, .cons r t, f => fun u' hu => by
    rw [List.all_cons, Bool.and_eq_true] at f
    rcases List.mem_cons.mp hu with rfl | hu
    · rw [eqU_of r f.1]; exact eqAt_V r rx f.1 fx
    · exact mem_eqAt rx fx t f.2 u' hu
def inV (x : V) (xs : List V) : Bool := xs.any fun y => eqV y x
def rIn (K : PySem.W.Frag) (neg : Bool) : R2 := fun x y H Q => ∃ p xs, y = .ref p ∧ (SqL K H p xs ∨ SqT K H p xs) ∧ flatV x = true ∧ xs.all flatV = true ∧ Q (.bl (if neg then !inV x xs else inV x xs)) H
theorem op_in_seq : OpR X (compareOp .In) (rIn X.K false) := by
  intro pins s σ H x y v u Q I rx ry h
  obtain ⟨p, xs, rfl, hq, fx, fs, q⟩ := h
  cases ry
  rcases hq with hq | hq
  · obtain ⟨its, r, pl, hz⟩ := I.list hq
    refine SeqAt.in_listAt (eqU x) pl.isList (fun w hw => mem_eqAt rx fx r fs w (by simpa using hw)) ⟨.bl _, H, I, rfl, ?_⟩
    rw [show its.toArray.any (eqU x) = its.any (eqU x) by simp, any_eqU r fs]
    exact q
  · obtain ⟨its, r, pl, hz⟩ := I.tuple hq
    refine SeqAt.in_tupleAt (eqU x) pl (fun w hw => mem_eqAt rx fx r fs w (by simpa using hw)) ⟨.bl _, H, I, rfl, ?_⟩
    rw [show its.toArray.any (eqU x) = its.any (eqU x) by simp, any_eqU r fs]
    exact q
theorem call_len_seq : CallR X (.builtin "len") (fun xs H Q => ∃ p ys, xs = [.ref p] ∧ (SqL X.K H p ys ∨ SqT X.K H p ys) ∧ Q (.int ys.length) H) := by
  intro pins s σ H xs us Q I r h
  obtain ⟨p, ys, rfl, hq, q⟩ := h
  obtain ⟨u, rfl, rx⟩ := vals1 r
  cases rx
  have hn := line63
  rcases hq with hq | hq
  · obtain ⟨its, r', pl, hz⟩ := I.list hq
    have hlen := r'.length
    exact Calls.call_len_list pl.isList (by simp only [List.size_toArray] <;> omega) ⟨.int ys.length, H, I.tok _, ⟨s.toks + 1, by rw [List.size_toArray, hlen]⟩, q⟩
  · obtain ⟨its, r', pl, hz⟩ := I.tuple hq
    have hlen := r'.length
    exact len_tuple pl (by simp only [List.size_toArray] <;> omega) ⟨.int ys.length, H, I.tok _, ⟨s.toks + 1, by rw [List.size_toArray, hlen]⟩, q⟩
theorem call_len_str : CallR X (.builtin "len") (fun xs H Q => ∃ z, xs = [.str z] ∧ z.length ≤ sizeLine ∧ Q (.int z.length) H) := by
  intro pins s σ H xs us Q I r h
  obtain ⟨z, rfl, hz, q⟩ := h
  obtain ⟨u, rfl, t, rfl⟩ := vals1 r
  have hn := line63
  exact len_str (by omega) ⟨.int z.length, H, I.tok _, ⟨_, rfl⟩, q⟩
theorem call_list_of : CallR X (.type "list") (fun xs H Q => ∃ p ys, xs = [.ref p] ∧ (SqL X.K H p ys ∨ SqT X.K H p ys) ∧ ∀ l, H l = none → Q (.ref l) (upd H l (.lst ys))) := by
  intro pins s σ H xs us Q I r h
  obtain ⟨p, ys, rfl, hq, q⟩ := h
  obtain ⟨u, rfl, rx⟩ := vals1 r
  cases rx
  have fin : ∀ (its : List Value), Vals ys its → ys.length ≤ sizeLine → ∀ (h' : Heap) (c' : Nat), (∀ b o', s.heap.get? b = some o' → h'.get? b = some o') →
      h'.get? s.heap.objs.size = some { cls := .type "list", dict := none, data := .seq its.toArray c', slots := #[] } → EP X pins σ Q (.ref s.heap.objs.size) { s with heap := h' } := fun its r' hz h' c' kp e =>
    ⟨.ref s.heap.objs.size, _, I.laid (t' := s.toks) kp (Nat.le_refl _) (show ObjOk X.prog X.w _ h' _ (.lst ys) from ⟨hz, its, c', r', e⟩), rfl, q _ (I.hok.fresh (Nat.le_refl _))⟩
  rcases hq with hq | hq
  · obtain ⟨its, r', pl, hz⟩ := I.list hq
    have hlen := r'.length
    obtain ⟨o, ho, hc, n, hd⟩ := pl.isList
    exact call_list_seq p (.inl rfl) ho hc hd (fun h' c' kp e => fin its r' hz h' c' kp e) (by simp only [List.size_toArray] <;> omega)
  · obtain ⟨its, r', pl, hz⟩ := I.tuple hq
    have hlen := r'.length
    obtain ⟨o, ho, hc, n, hd⟩ := pl
    exact call_list_seq p (.inr rfl) ho hc hd (fun h' c' kp e => fin its r' hz h' c' kp e) (by simp only [List.size_toArray] <;> omega)
def tyV (K : PySem.W.Frag) (T : String) (x : V) (H : Hp) : Prop := match x with
  | .str _ => T = "str"
  | .int _ => T = "int"
  | .ref p => (T = "list" ∧ ∃ xs, SqL K H p xs) ∨ (T = "tuple" ∧ ∃ o, K.lookup p = some o ∧ o.cls = .type "tuple" ∧ o.dict = none) ∨
      (T = "dict" ∧ ((∃ kvs, H p = some (.dK kvs)) ∨ ∃ kvs, H p = some (.dT kvs))) ∨ (T = "set" ∧ ∃ S n, H p = some (.set S n))
  | _ => False
theorem tyV_is {pins : List (Addr × Obj)} {σ : St} {H : Hp} {s : Shared} {T : String} {x : V} {v : Value} (I : Inv X pins σ H s) (r : RelV x v) (ty : tyV X.K T x H) :
    s.TypeIs v T ∧ ∀ a, v = .ref a → ∃ ob, s.heap.get? a = some ob ∧ ob.dict = none := by
  cases x with
  | str z =>
    obtain ⟨t, rfl⟩ := r
    cases (show T = "str" from ty)
    exact ⟨typeIs_str s z t, fun _ e => nomatch e⟩
  | int i =>
    obtain ⟨t, rfl⟩ := r
    cases (show T = "int" from ty)
    exact ⟨typeIs_int s i t, fun _ e => nomatch e⟩
  | ref p =>
    cases r
    rcases ty with ⟨rfl, xs, hq⟩ | ⟨rfl, o, hk, hc, hd⟩ | ⟨rfl, hk⟩ | ⟨rfl, S, n, hk⟩
    · obtain ⟨its, _, pl, _⟩ := I.list hq
      refine ⟨pl.isList.typeIs, fun a e => ?_⟩
      cases e
      obtain ⟨o, n, e, c, hd, _⟩ := pl
      exact ⟨o, e, hd⟩
    · refine ⟨⟨o, I.kIn p o hk, hc⟩, fun a e => ?_⟩
      cases e
      exact ⟨o, I.kIn _ o hk, hd⟩
    · have z : ∃ o, s.heap.get? p = some o ∧ o.ExactDict := by
        rcases hk with ⟨kvs, hk⟩ | ⟨kvs, hk⟩
        · obtain ⟨_, _, _, _, o, _, _, e, ex, _⟩ := I.hok p _ hk
          exact ⟨o, e, ex⟩
        · obtain ⟨_, _, _, _, o, _, _, e, ex, _⟩ := I.hok p _ hk
          exact ⟨o, e, ex⟩
      obtain ⟨o, e, ex⟩ := z
      refine ⟨⟨o, e, ex.1⟩, fun a e2 => ?_⟩
      cases e2
      exact ⟨o, e, ex.2.1⟩
    · obtain ⟨o, _, _, _, e, ex, _⟩ := I.hok p _ hk
      refine ⟨⟨o, e, ex.1⟩, fun a e2 => ?_⟩
      cases e2
      exact ⟨o, e, ex.2.1⟩
  | _ => exact False.elim ty
def tBM0 (K : PySem.W.Frag) (T : String) (r : V → List V → Hp → VK → Prop) (to : TE) : TE := fun σ H Q => to σ H fun x H1 => tyV K T x H1 ∧ r x [] H1 Q
def tBM (K : PySem.W.Frag) (T : String) (r : V → List V → Hp → VK → Prop) (to : TE) (t : TA) : TE := fun σ H Q => to σ H fun x H1 => tyV K T x H1 ∧ t σ H1 fun xs H2 => r x xs H2 Q
variable {o e : Expr} {es : List Expr} {to : TE} {t : TA} {name : Str} {apos cpos : Pos} {T id : String} {r : V → List V → Hp → VK → Prop}
theorem pe_bm0 (pa : PlainAttrs T) (slot : Slot T name id) (hty : typeOf (.builtin id) = pure (.type "method_descriptor")) (hm : MtR X id r) (ho : PE X o to)
    (hbase : attributeBase o name X.env (eval o X.env) = eval o X.env := by rfl) (hline : (apos.endLine == cpos.line) = true := by rfl) : PE X (.Call (.Attribute o name apos) [] [] cpos) (tBM0 X.K T r to) := by
  intro pins s σ H Q I h
  refine wpAny_Call_method0_late hbase hline (thn (ho pins s σ H _ I h) fun v s1 ⟨x, H1, I1, r1, ty, q1⟩ => ?_)
  obtain ⟨h1, h2⟩ := tyV_is I1 r1 ty
  exact ⟨T, id, pa, slot, hty, h1, h2, Calls.callWith_builtin rfl (PySem.evalArgs_none (hm pins s1 σ H1 x [] v [] Q I1 r1 .nil q1))⟩
theorem pe_bm (pa : PlainAttrs T) (slot : Slot T name id) (hty : typeOf (.builtin id) = pure (.type "method_descriptor")) (hm : MtR X id r) (ho : PE X o to) (ha : PA X (e :: es) t)
    (hbase : attributeBase o name X.env (eval o X.env) = eval o X.env := by rfl)
    (hfew : ((backTo cpos (starEach (e :: es) X.env)).all (fun x => !x.1) && (backToKw cpos (keywordEach [] X.env)).all (fun x => x.1.isSome)
      && decide ((e :: es).length + ([] : List Keyword).length + (if ([] : List Keyword).isEmpty then 0 else 1) < 30)) = true := by rfl)
    (hline : (apos.endLine == cpos.line) = true := by rfl) (hs : starEach (e :: es) X.env = (false, eval e X.env) :: starEach es X.env := by rfl) (hplain : (backTo cpos (starEach es X.env)).any (·.1) = false := by rfl) :
    PE X (.Call (.Attribute o name apos) (e :: es) [] cpos) (tBM X.K T r to t) := by
  intro pins s σ H Q I h
  refine wpAny_Call_method_late hbase hfew hline rfl (thn (ho pins s σ H _ I h) fun v s1 ⟨x, H1, I1, r1, ty, q1⟩ => ?_)
  obtain ⟨h1, h2⟩ := tyV_is I1 r1 ty
  refine ⟨T, id, pa, slot, hty, h1, h2, ?_⟩
  have hA := ha cpos pins s1 σ H1 _ I1 q1
  rw [hs] at hA ⊢
  refine Calls.callWith_builtin (by show (false || (backTo cpos (starEach es X.env)).any (·.1)) = false; rw [hplain] <;> rfl) (Calls.evalArgs_plain ?_)
  exact thn hA fun us s2 ⟨vs, H2, I2, r2, q2⟩ => hm pins s2 σ H2 x vs v us Q I2 r1 r2 q2
end
end L2
namespace L2
open PySem PySem.Spec PyProof.Rows
def MtM (X : Cx) (id : String) (r : V → List V → Hp → VK → Prop) : Prop :=
  ∀ (pins : List (Addr × Obj)) (s : Shared) (σ : St) (H : Hp) (x : V) (xs : List V) (v : Value) (us : List Value) (Q : VK), Inv X pins σ H s → RelV x v → Vals xs us → r x xs H Q →
    wpAny (model X.prog X.w) X.A (call (.builtin id) (v :: us)) (EP X pins σ Q) X.xe s
theorem Vals.one : ∀ {x : V} {us : List Value}, Vals [x] us → ∃ u, us = [u] ∧ RelV x u
  | _, _, .cons r .nil => ⟨_, rfl, r⟩
theorem Vals.two : ∀ {x y : V} {us : List Value}, Vals [x, y] us → ∃ u v, us = [u, v] ∧ RelV x u ∧ RelV y v
  | _, _, _, .cons r (.cons q .nil) => ⟨_, _, rfl, r, q⟩
theorem Vals.zero : ∀ {us : List Value}, Vals [] us → us = []
  | _, .nil => rfl
theorem Vals.dropLast {xs : List V} {us : List Value} (h : Vals xs us) : Vals xs.dropLast us.dropLast := by
  induction h with
  | nil => exact .nil
  | cons r t ih =>
    cases t with
    | nil => exact .nil
    | cons q t' => exact .cons r ih
section
variable {X : Cx} {pins : List (Addr × Obj)} {σ : St} {H : Hp} {s : Shared} {l b : Addr} {xs ys zs : List V}
theorem Inv.lset {its its' : List Value} {n : Nat} {f : Array Value → Array Value} {t' : Nat} (I : Inv X pins σ H s) (hH : H l = some (.lst xs))
    (e : s.heap.get? l = some { cls := .type "list", data := .seq its.toArray n }) (hf : f its.toArray = its'.toArray) (hv : Vals ys its') (hz : ys.length ≤ sizeLine) :
    Inv X pins σ (upd H l (.lst ys)) { s with heap := s.heap.update l (Obj.mapSeq f), toks := t' } := by
  have q := PySem.IsL.update e f
  rw [hf] at q
  refine I.write (x := l) (e := l) (by rw [hH]; exact trivial) (.inl rfl) (fun b' u hb hu => (Heap.get?_update_other s.heap (Obj.mapSeq f) (Ne.symm hb)).trans hu) ⟨_, q⟩ ?_
  exact ⟨hz, its', _, hv, q⟩
theorem Inv.lnew {its : List Value} {t' : Nat} (I : Inv X pins σ H s) (hv : Vals ys its) (hz : ys.length ≤ sizeLine) :
    Inv X pins σ (upd H s.heap.objs.size (.lst ys)) { s with heap := s.heap.push { cls := .type "list", data := .seq its.toArray }, toks := t' } :=
  I.laid (fun _ _ q => Heap.get?_push_of_some _ q) (Nat.le_refl _) ⟨hz, its, 0, hv, Heap.get?_push_size _ rfl⟩
theorem Inv.fresh (I : Inv X pins σ H s) : H s.heap.objs.size = none := I.hok.fresh (Nat.le_refl _)
theorem Inv.lstM (I : Inv X pins σ H s) (hH : H l = some (.lst xs)) : xs.length ≤ sizeLine ∧ ∃ (its : List Value) (n : Nat), Vals xs its ∧ xs.length = its.length ∧ s.heap.get? l = some { cls := .type "list", data := .seq its.toArray n } := by
  obtain ⟨z, its, n, r, e⟩ := I.hok l _ hH
  exact ⟨z, its, n, r, r.length, e⟩
end
section
variable {X : Cx}
def rAppend : V → List V → Hp → VK → Prop := fun x vs H Q => ∃ l xs y, x = .ref l ∧ vs = [y] ∧ H l = some (.lst xs) ∧ xs.length < sizeLine ∧ Q .non (upd H l (.lst (xs ++ [y])))
theorem mt_append : MtM X "list.append" rAppend := by
  intro pins s σ H x vs v us Q I rx rv h
  obtain ⟨l, xs, y, rfl, rfl, hH, hz, q⟩ := h
  cases rx
  obtain ⟨u, rfl, ru⟩ := rv.one
  obtain ⟨z, its, n, r, hl, e⟩ := I.lstM hH
  refine call_meets F.slot_list_append ⟨_, e, rfl⟩ F.entry_list_append (F.args_list_append_2 _ _) (PySem.list_append l its.toArray n u (by rw [List.size_toArray]; omega)) ⟨e, ?_⟩
  refine ⟨.non, _, I.lset (its' := its ++ [u]) hH e (by simp) (r.append (.cons ru .nil)) ?_, rfl, q⟩
  rw [List.length_append, List.length_singleton]
  omega
def rCat : R2 := fun x y H Q => ∃ l b xs zs, x = .ref l ∧ y = .ref b ∧ H l = some (.lst xs) ∧ H b = some (.lst zs) ∧ xs.length + zs.length ≤ sizeLine ∧ ∀ p, H p = none → Q (.ref p) (upd H p (.lst (xs ++ zs)))
theorem op_cat : OpR X (binaryOp .Add) rCat := by
  intro pins s σ H x y v u Q I rx ry h
  obtain ⟨l, b, xs, zs, rfl, rfl, hH, hB, hz, q⟩ := h
  cases rx
  cases ry
  obtain ⟨z, its, n, r, hl, e⟩ := I.lstM hH
  obtain ⟨z2, its2, n2, r2, hl2, e2⟩ := I.lstM hB
  refine PySem.P.add_list e e2 ?_ (by rw [List.size_toArray, List.size_toArray]; omega)
  have ea : its.toArray ++ its2.toArray = (its ++ its2).toArray := by simp
  rw [ea]
  exact ⟨.ref _, _, I.lnew (t' := s.toks) (r.append r2) (by rw [List.length_append]; omega), rfl, q _ I.fresh⟩
end
section
variable {prog : Program} {w : World} {A : Around} {E : Value → Shared → Prop} {s : Shared}
end
section
variable {X : Cx}
end
end L2
namespace Att
open PySem PySem.W PySem.Calls PyProof.Rows
theorem ints_of_wellAll {P : Params} {h : Heap} : ∀ (ns : List Int) (vs : List Value), WellAll P h vs (ns.map WData.int) → IntsAre vs ns := by
  intro ns
  induction ns with
  | nil =>
    intro vs w
    rw [List.map_nil] at w
    cases w
    exact .nil
  | cons n ns ih =>
    intro vs w
    rw [List.map_cons] at w
    cases w with
    | cons a b =>
      cases a
      exact .cons _ _ (ih _ b)
theorem script_of {l : OpenLaw} {n : Nat} (hn : l.most = some n) {P : Params} {h : Heap} {args : List WData} {vals : List Value}
    (hpre : l.row.toRowW.claim.pre args = true) (hwl : WellAll P h vals args) :
    ∃ a vs ns, vals = [Value.ref a] ∧ args = [WData.list (ns.map WData.int)] ∧ h.get? a = some { cls := .type "list", data := .seq vs.toArray } ∧ IntsAre vs ns ∧ ns.length ≤ n := by
  have hsh : WShape.hasAll [] args [.list .int] = true := (pre_splitW hpre).1
  have hc : l.pre.holds [] { args := args } = true := (pre_splitW hpre).2
  obtain ⟨d, r, rfl, h1, h2⟩ := hasAllW_cons hsh
  obtain rfl := hasAllW_nil h2
  obtain ⟨xs, rfl, h3⟩ := hasW_list h1
  obtain ⟨ns, rfl⟩ := items_int h3
  have hlen : ns.length ≤ n := by
    unfold OpenLaw.pre at hc
    have h4 : (WTm.not (.lt (.lit (.int (n : Int))) (.len (.arg 0)))).holds [] { args := [.list (ns.map .int)] } = true := by
      have h4 := (holds_andW hc).1
      rw [hn] at h4
      exact h4
    have h5 := condW_of h4 (w_not (w_lt w_lit (w_len_list (w_arg rfl))))
    rw [List.length_map] at h5
    refine Nat.le_of_not_lt fun q => ?_
    have q' : (n : Int) < ((ns.length : Nat) : Int) := by omega
    first
      | (rw [decide_eq_true q'] at h5; exact absurd h5 (by decide))
      | (simp at h5; omega)
  cases hwl with
  | cons w1 w2 =>
    cases w2
    cases w1 with
    | list ho hall => exact ⟨_, _, ns, rfl, rfl, ho, ints_of_wellAll ns _ hall, hlen⟩
theorem post_true (l : OpenLaw) (args : List WData) : l.row.toRowW.claim.post args (.bool true) args = true :=
  postW_of (r := l.row.toRowW) (X := (true == true))
    (show WShape.has [] (.bool true) .bool = true by first | rfl | decide | simp [WShape.has, WShape.arms, WShape.armsAll])
    (show (WTm.eq .res (.lit (.bool true))).value [] { args := args, res := some (.bool true), after := args } = some (.bool (true == true)) from w_eq_bool (w_res rfl) w_lit) rfl
theorem attach_call {l : OpenLaw} {n : Nat} {q : Program} {loose : List Str} {XP : (Str → Option Value) → Heap → Prop} {YP : World → Heap → Prop} {d : DefRec}
    (hn : l.most = some n) (hdf : d.params.defaults = [])
    (call : ∀ (w : World) (s₀ s₁ : Shared) (mg mb : Str → Option Value) (fa : Addr) (o : Obj) (pm cd doc : Value) (a : Addr) (vs : List Value) (ns : List Int),
      Ground q loose [] XP w s₀ mg mb s₁.heap → YP w s₁.heap →
      s₁.heap.get? fa = some o → o.data = .func (docDef d.name d.params d.body d.scope pm cd doc) → s₁.heap.CodeRec cd d.name → mg d.name = some (.ref fa) →
      s₁.heap.get? a = some { cls := .type "list", data := .seq vs.toArray } → IntsAre vs ns → ns.length ≤ n → s₁.gens = #[] →
      codeAny (model l.prog w) callerA (.call (.ref fa) ⟨[.ref a], []⟩) (fun r s' => r = .ok (.ret (.bool true)) ∧ OldK s₁.heap s'.heap ∧ s'.os = s₁.os ∧ AllBare s'.gens) s₁) :
    WalkO q loose XP YP l.row.toRowW d [] (fun f vs => PySem.call f vs) := by
  intro w s₀ s₁ mg mb G Y fa o pm cd doc dV kV ho hd hcd hD hmg hg args vals as hpre hlay hrd hwl hlo
  obtain rfl : dV = .none := Dflts.none hD hdf
  obtain rfl : kV = .none := Dflts.noKw hD
  obtain ⟨a, vs, ns, rfl, rfl, hobj, hints, hlen⟩ := script_of hn hpre hwl
  refine enter_call (codeAny_mono (call w s₀ s₁ mg mb fa o pm cd doc a vs ns G Y ho (fd_plain hd) hcd hmg hobj hints hlen hg) fun r s' hq => ?_)
  obtain ⟨rfl, h2, h3, h4⟩ := hq
  exact ⟨.inl ⟨.bool true, .bool true, [], rfl, fun _ => rfl, .bool true, post_true l _, fun _ => ⟨List.Pairwise.nil, fun _ hm => (nomatch hm)⟩⟩, h2, h3, h4⟩
section
variable {prog : Program} {w : World} {A : Around} {E : Value → Shared → Prop} {s : Shared} {K : Frag}
end
end Att
namespace L2
open PySem PySem.Spec PyProof.Rows
theorem vals_ints : ∀ {vs : List Value} {ns : List Int}, IntsAre vs ns → Vals (ns.map V.int) vs
  | _, _, .nil => .nil
  | _, _, .cons n t h => .cons ⟨t, rfl⟩ (vals_ints h)
def Only (H : Hp) : Prop := ∀ b, H b = none ∨ ∃ o xs, H b = some (.frz o (.lst xs))
theorem law_call {P : Program} {w : World} {K : PySem.W.Frag} {mg mb : Str → Option Value} {CX : CXT} {k : Nat} {fa a : Addr} {fd : FuncData} {x : Str} {sp : Sp} {s₁ : Shared} {vs : List Value} {ns : List Int}
    (KX : K.In s₁.heap) (hns : s₁.heap.Ns mainGlobals mg) (hb : s₁.heap.Ns builtinsNs mb) (hbb : ∀ x : Str, x ≠ "__name__" → mb x = bootBuiltins x) (hlim : s₁.heap.NoLimit) (hg : s₁.gens = #[])
    (ha : s₁.heap.get? a = some { cls := .type "list", data := .seq vs.toArray }) (hi : IntsAre vs ns) (hl : ns.length ≤ sizeLine) (hr : Room k callerA)
    (F : ∀ base : Heap, K.In base → base.Ns mainGlobals mg → FnOk P w K mg base CX k fa fd [x] sp) (hbind : ∀ (s : Shared) (u : Value), BindsTo s fd ⟨[u], []⟩ [(x, u)])
    (hsp : ∀ H : Hp, Only H → SqL K H a (ns.map V.int) → sp [.ref a] H (fun v _ => v = .bl true) fun _ _ _ => False)
    (hCX : ∀ H e s', CX [] H s₁ (fun _ _ _ => False) e s' → False) :
    codeAny (model P w) callerA (.call (.ref fa) ⟨[.ref a], []⟩) (fun r s' => r = .ok (.ret (.bool true)) ∧ OldK s₁.heap s'.heap ∧ s'.os = s₁.os ∧ AllBare s'.gens) s₁ := by
  have rv := vals_ints hi
  have lenV := hi.length
  -- from an abstract heap in which nothing but the script may be tracked
  have core : ∀ H : Hp, Only H → SqL K H a (ns.map V.int) → HOk P w H s₁.heap → (∀ b, H b ≠ none → b = a) → (H a ≠ none → K.lookup a = none) →
      codeAny (model P w) callerA (.call (.ref fa) ⟨[.ref a], []⟩) (fun r s' => r = .ok (.ret (.bool true)) ∧ OldK s₁.heap s'.heap ∧ s'.os = s₁.os ∧ AllBare s'.gens) s₁ := by
    intro H hO hS hok hA hK
    have base_of : ∀ {b : Addr} {o : Obj}, s₁.heap.get? b = some o → H b = none → (hidT s₁.heap H).get? b = some o := fun e n => hidT_get e n
    have noA : ∀ {b : Addr} {o : Obj} {es : Array DictEntry} {ep : Nat}, s₁.heap.get? b = some o → o.data = .dict es ep → H b = none := fun {b o es ep} e d => by
      cases q : H b with
      | none => rfl
      | some u =>
        have e' : b = a := hA b (by rw [q]; simp)
        subst e'
        rw [ha] at e; cases e
        have d' : Data.seq vs.toArray _ = Data.dict es ep := d
        cases d'
    have nsK : ∀ {b : Addr} {m : Str → Option Value}, s₁.heap.Ns b m → (hidT s₁.heap H).Ns b m := fun {b m} ⟨o, es, ep, e, d, r⟩ => ⟨o, es, ep, base_of e (noA e d), d, r⟩
    have hKb : K.In (hidT s₁.heap H) := fun b o e => base_of (KX b o e) (by
      cases q : H b with
      | none => rfl
      | some u =>
        have e' : b = a := hA b (by rw [q]; simp)
        subst e'
        rw [hK (by rw [q]; simp)] at e; cases e)
    have hM : Mod K mg (hidT s₁.heap H) := ⟨hKb, nsK hns, ⟨mb, nsK hb, hbb⟩, let ⟨mc, h1, h2⟩ := hlim; ⟨mc, nsK h1, h2⟩⟩
    have e0 : Env0 P w K mg (hidT s₁.heap H) callerA [] s₁ H := ⟨rfl, hM, fun b o e => of_hidT e, Nat.le_of_eq (hidT_size _ _), trivial, fun b hb => absurd (show b ∈ ([] : List Addr) from hb) (by simp), hok, .of_eq hg⟩
    refine codeAny_mono ((F _ hKb (nsK hns)).run callerA [] s₁ H ⟨[.ref a], []⟩ [.ref a] [.ref a] _ _ hr e0 (hbind s₁ (.ref a)) (.cons rfl .nil) (hsp H hO hS)) fun r s' h => ?_
    cases r with
    | error e => exact (hCX H e s' h).elim
    | ok fl =>
      cases fl with
      | next => exact False.elim h
      | brk => exact False.elim h
      | cont => exact False.elim h
      | ret u =>
        obtain ⟨v, H', os, bare, un, hok', r', q⟩ := h
        have q' : v = .bl true := q
        subst q'
        obtain rfl : u = Value.bool true := r'
        refine ⟨rfl, OldK.of_keep fun b o e => ?_, os, bare⟩
        cases q : H b with
        | none => exact un.keep b o e q (by intro z; exact absurd (show b ∈ ([] : List Addr) from z) (by simp)) (by simp)
        | some u =>
          rcases hO b with z | ⟨ob, xs, z⟩
          · rw [q] at z; cases z
          · have z2 := un.frzs b ob _ z
            obtain ⟨e1, _⟩ := hok b _ z
            obtain ⟨e2, _⟩ := hok' b _ z2
            rw [e] at e1; cases e1
            exact e2
  cases hk : K.lookup a with
  | some o =>
    -- the script is one of the module's own objects
    have e := KX a o hk
    rw [ha] at e
    cases e
    refine core (fun _ => none) (fun _ => .inl rfl) (.inr ⟨_, vs.toArray, _, hk, rfl, rfl, rfl, by rw [List.size_toArray, lenV]; exact hl, by simpa using rv⟩) (fun b u z => by have z' : (none : Option HO) = some u := z; cases z') (fun b z => absurd rfl z) fun z => absurd rfl z
  | none =>
    refine core (fun b => if b = a then some (.frz { cls := .type "list", data := .seq vs.toArray } (.lst (ns.map V.int))) else none) (fun b => ?_) (.inl (.inr ⟨{ cls := .type "list", data := .seq vs.toArray }, if_pos rfl⟩)) (fun b u z => ?_) (fun b z => ?_) fun _ => hk
    · by_cases hb : b = a
      · exact .inr ⟨_, _, if_pos hb⟩
      · exact .inl (if_neg hb)
    · by_cases hb : b = a
      · have z' := (if_pos hb).symm.trans z
        cases z'
        subst hb
        exact ⟨ha, by rw [List.length_map]; exact hl, vs, _, rv, ha⟩
      · have z' := (if_neg hb).symm.trans z
        cases z'
    · by_cases hb : b = a
      · exact hb
      · exact absurd (if_neg hb) z
end L2
namespace L2
open PySem PySem.Spec PyProof.Rows
theorem walk_of {l : PySem.W.OpenLaw} {n k : Nat} {q : Program} {loose : List Str} {XP : (Str → Option Value) → Heap → Prop} {YP : World → Heap → Prop} {d : DefRec} {K : Params → PySem.W.Frag} {CX : World → CXT} {sp : World → Sp} {x : Str}
    (hn : l.most = some n) (hn2 : n ≤ sizeLine) (hdf : d.params.defaults = []) (hr : Room k callerA)
    (hY : ∀ (w : World) (h : Heap), YP w h → (K w.params).In h)
    (F : ∀ (w : World) (mg : Str → Option Value) (fa : Addr) (h : Heap), (K w.params).In h → h.Ns mainGlobals mg → mg d.name = some (.ref fa) →
      ∃ fd : FuncData, (∀ (s : Shared) (u : Value), BindsTo s fd ⟨[u], []⟩ [(x, u)]) ∧
        ∀ base : Heap, (K w.params).In base → base.Ns mainGlobals mg → FnOk l.prog w (K w.params) mg base (CX w) k fa fd [x] (sp w))
    (hsp : ∀ (w : World) (H : Hp) (a : Addr) (ns : List Int), ns.length ≤ n → Only H → SqL (K w.params) H a (ns.map V.int) → sp w [.ref a] H (fun v _ => v = .bl true) fun _ _ _ => False)
    (hCX : ∀ (w : World) (H : Hp) (s : Shared) (e : Value) (s' : Shared), CX w [] H s (fun _ _ _ => False) e s' → False) :
    PySem.W.WalkO q loose XP YP l.row.toRowW d [] (fun f vs => PySem.call f vs) := by
  refine Att.attach_call hn hdf fun w s₀ s₁ mg mb fa o pm cd doc a vs ns G Y ho hd hcd hmg hobj hints hlen hg => ?_
  have KX := hY w _ Y
  obtain ⟨fd, hb, hF⟩ := F w mg fa _ KX G.T.g hmg
  exact law_call KX G.T.g G.T.b G.T.builtins G.T.nolimit hg hobj hints (Nat.le_trans hlen hn2) hr hF hb (fun H hO hS => hsp w H a ns hlen hO hS) fun H e s' => hCX w H s₁ e s'
end L2
namespace L2
open PySem PySem.Spec PyProof.Rows
def inClass (s : Stmt) (j : Nat) : Stmt := match s with
  | .ClassDef _ _ _ body _ _ _ _ _ _ _ => body.getD j (.Pass ⟨0, 0, 0, 0⟩)
  | _ => .Pass ⟨0, 0, 0, 0⟩
def defArgs (s : Stmt) : Arguments := match s with
  | .FunctionDef _ a _ _ _ _ _ _ _ _ => a
  | _ => { posonlyargs := [], args := [], vararg := none, kwonlyargs := [], kw_defaults := [], kwarg := none, defaults := [] }
def defBody (s : Stmt) : List Stmt := match s with
  | .FunctionDef _ _ b _ _ _ _ _ _ _ => b
  | _ => []
def defScope (s : Stmt) : Scope := match s with
  | .FunctionDef _ _ _ _ _ _ sc _ _ _ => sc
  | _ => { kind := .function, names := [], isGenerator := false, isCoroutine := false }
abbrev CX0 : CXT := fun _ _ _ _ _ _ => False
abbrev E0 : XK := fun _ _ _ => False
structure Fun (K : PySem.W.Frag) (x qual : Str) (st : Stmt) (f : Addr) (fd : FuncData) : Prop where
  ex : ∃ (oc : Value) (od : Option Addr) (kV doc pm : Value) (an : Option Addr) (cdv ct : Value) (osl : Array (Option Value)),
    fd = PySem.W.fnOf x qual (defArgs st) (defBody st) (defScope st) .none kV doc pm an cdv ct ∧ K.lookup f = some ⟨oc, od, .func fd, osl⟩ ∧ PySem.W.codeIn K cdv qual = true
  kp : PySem.W.keepIn K (.ref f) = true
section
variable {P : Program} {w : World} {K : PySem.W.Frag} {mg : Str → Option Value} {base : Heap}
theorem Fun.ok {x qual : Str} {st : Stmt} {f : Addr} {fd : FuncData} {N ps : List Str} {k : Nat} {sp : Sp} (F : Fun K x qual st f fd) (S : FnScope N ps (defScope st)) (len : ∀ vs H Q E, sp vs H Q E → vs.length = ps.length)
    (hbody : ∀ (cdv : Value) (A : Around) (outer : List Env) (s : Shared) (H : Hp) (vs : List V) (Q : VK) (E : XK), Room k (A.deeper (envOfC qual (defScope st) s.heap.objs.size f cdv)) → sp vs H Q E →
      ∃ t, PSs (cxOf CX0 P w K mg base N qual (defScope st) f cdv A outer s H E).nox (defBody st) t ∧ t { nx := fun _ H' => Q .non H', rt := Q } (start N vs) H) : FnOk P w K mg base CX0 (k + 1) f fd ps sp := by
  obtain ⟨oc, od, kV, doc, pm, an, cdv, ct, osl, rfl, lk, hcd⟩ := F.ex
  refine fn_of lk hcd S len fun A outer s H vs Q E hr hsp => ?_
  obtain ⟨t, h, q⟩ := hbody cdv A outer s H vs Q E hr hsp
  exact ⟨t, h.nox, q⟩
theorem Fun.binds {x qual : Str} {st : Stmt} {f : Addr} {fd : FuncData} {ps : List Str} (F : Fun K x qual st f fd)
    (h : ∀ (kV doc pm : Value) (an : Option Addr) (cdv ct : Value) (us : List Value), us.length = ps.length → bindArgs (PySem.W.fnOf x qual (defArgs st) (defBody st) (defScope st) .none kV doc pm an cdv ct) ⟨us, []⟩ = pure (ps.zip us)) : Binds K fd ps [] := by
  obtain ⟨oc, od, kV, doc, pm, an, cdv, ct, osl, rfl, lk, hcd⟩ := F.ex
  exact .all (h kV doc pm an cdv ct)
theorem fun_mk {x qual : Str} {st : Stmt} {f : Addr} {oc : Value} {od an : Option Addr} {osl : Array (Option Value)} {kV doc pm cdv ct : Value} (l : K.lookup f = some ⟨oc, od, .func (PySem.W.fnOf x qual (defArgs st) (defBody st) (defScope st) .none kV doc pm an cdv ct), osl⟩)
    (c : PySem.W.codeIn K cdv qual = true) (k : PySem.W.keepIn K (.ref f) = true) : Fun K x qual st f (PySem.W.fnOf x qual (defArgs st) (defBody st) (defScope st) .none kV doc pm an cdv ct) := ⟨⟨oc, od, kV, doc, pm, an, cdv, ct, osl, rfl, l, c⟩, k⟩
end
theorem small1000 {n : Nat} (h : n ≤ 1000) : n < sizeLine := Nat.lt_of_le_of_lt h (by decide)
section
variable {X : Cx}
theorem pv (i : Nat) {x : Str} {pos : Pos} (hN : X.N[i]? = some x := by rfl) (hv : Vis X.env.scope x := by first | exact Or.inl rfl | exact Or.inr (Or.inl rfl) | exact Or.inr (Or.inr rfl)) (hd : (x == ("__debug__" : Str)) = false := by decide)
    (hcd : (x == ("__classdict__" : Str)) = false := by decide) : PE X (.Name x pos) (tVar i) := pe_var hN hv hd hcd
end
theorem iteF {A B : Prop} (h : B) : if false = true then A else B := by
  rw [if_neg Bool.false_ne_true]
  exact h
theorem iteT {A B : Prop} (h : A) : if true = true then A else B := by
  rw [if_pos rfl]
  exact h
theorem ite2 {c A B : Prop} [Decidable c] (h1 : c → A) (h2 : ¬ c → B) : if c then A else B := by
  by_cases h : c
  · rw [if_pos h]
    exact h1 h
  · rw [if_neg h]
    exact h2 h
def Same (H H' : Hp) : Prop := ∀ b o, H b = some o → H' b = some o
theorem Same.refl (H : Hp) : Same H H := fun _ _ h => h
theorem Same.trans {H H1 H2 : Hp} (a : Same H H1) (b : Same H1 H2) : Same H H2 := fun c o h => b c o (a c o h)
theorem Same.free {H H' : Hp} (e : Same H H') {l : Addr} (h : H' l = Option.none) : H l = Option.none := by
  cases q : H l with
  | none => rfl
  | some o =>
    rw [e l o q] at h
    cases h
theorem Same.seq {K : PySem.W.Frag} {H H' : Hp} {a : Addr} {xs : List V} (e : Same H H') (h : SqL K H a xs) : SqL K H' a xs := by
  rcases h with (h | ⟨o, h⟩) | h
  · exact .inl (.inl (e _ _ h))
  · exact .inl (.inr ⟨o, e _ _ h⟩)
  · exact .inr h
end L2
set_option maxRecDepth 100000
namespace L2
open PySem PySem.Spec PyProof.Rows
def closG (env : Env) : List (Str × NameKind) → List (Str × Addr) → List (Str × Addr)
  | [], cs => cs
  | (n, k) :: r, cs => closG env r (if k == .free then (n, (env.cells.lookup n).getD 0) :: cs else cs)
theorem closG_for {env : Env} : ∀ (names : List (Str × NameKind)) (cs : List (Str × Addr)), (∀ p ∈ names, p.2 = .free → ∃ c, env.cells.lookup p.1 = some c) →
    (forIn names cs (fun (x : Str × NameKind) (r : List (Str × Addr)) => (do if x.2 == .free then pure (.yield ((x.1, ← cellOf env x.1) :: r)) else pure (.yield r) : Sem (ForInStep (List (Str × Addr)))))) = (pure (closG env names cs) : Sem _)
  | [], cs, _ => rfl
  | (n, k) :: r, cs, h => by
    rw [List.forIn_cons]
    by_cases hk : (k == NameKind.free) = true
    · obtain ⟨c, e⟩ := h (n, k) List.mem_cons_self (by simpa using hk)
      have ec : cellOf env n = pure c := by unfold cellOf; rw [show env.cells.lookup n = some c from e]
      simp only [hk, if_true, ec, pure_bind]
      rw [closG_for r _ fun p hp => h p (List.mem_cons_of_mem _ hp)]
      simp only [closG, hk, if_true, show env.cells.lookup n = some c from e, Option.getD_some]
    · simp only [hk, if_false, pure_bind, Bool.false_eq_true]
      rw [closG_for r _ fun p hp => h p (List.mem_cons_of_mem _ hp)]
      simp only [closG, hk, if_false, Bool.false_eq_true]
theorem closureFor_G {scope : Scope} {env : Env} (h : ∀ p ∈ scope.names, p.2 = .free → ∃ c, env.cells.lookup p.1 = some c) : closureFor scope env = pure (closG env scope.names []) := by
  rw [← closG_for scope.names [] h]
  simp only [closureFor]
  rw [bind_pure]
theorem closG_look {env : Env} {x : Str} {c : Addr} : ∀ (names : List (Str × NameKind)) (cs : List (Str × Addr)), (∀ p ∈ names, p.2 = .free → ∃ c, env.cells.lookup p.1 = some c) →
    (closG env names cs).lookup x = some c → cs.lookup x = some c ∨ env.cells.lookup x = some c
  | [], cs, _, h => .inl h
  | (n, k) :: r, cs, hf, h => by
    have hf' : ∀ p ∈ r, p.2 = .free → ∃ c, env.cells.lookup p.1 = some c := fun p hp => hf p (List.mem_cons_of_mem _ hp)
    unfold closG at h
    rcases closG_look r _ hf' h with q | q
    · by_cases hk : (k == NameKind.free) = true
      · rw [if_pos hk] at q
        obtain ⟨c', e⟩ := hf (n, k) List.mem_cons_self (by simpa using hk)
        have e : env.cells.lookup n = some c' := e
        rw [e, Option.getD_some, List.lookup_cons] at q
        cases hx : (x == n) with
        | true =>
          rw [hx] at q
          have : x = n := by simpa using hx
          subst this
          cases q
          exact .inr e
        | false => rw [hx] at q; exact .inl q
      · rw [if_neg hk] at q; exact .inl q
    · exact .inr q
theorem closG_has {env : Env} {x : Str} : ∀ (names : List (Str × NameKind)) (cs : List (Str × Addr)), ((x, NameKind.free) ∈ names ∨ ∃ c, cs.lookup x = some c) → ∃ c, (closG env names cs).lookup x = some c
  | [], cs, h => by
    rcases h with h | h
    · cases h
    · exact h
  | (n, k) :: r, cs, h => by
    unfold closG
    refine closG_has r _ ?_
    rcases h with h | ⟨c, h⟩
    · rcases List.mem_cons.mp h with e | h
      · cases e
        right
        rw [if_pos (by rfl), List.lookup_cons]
        simp
      · exact .inl h
    · right
      split
      · rw [List.lookup_cons]
        cases (x == n) with
        | true => exact ⟨_, rfl⟩
        | false => exact ⟨c, h⟩
      · exact ⟨c, h⟩
theorem relabel_free {env : Env} : ∀ {names : List (Str × NameKind)} {x : Str}, names.lookup x = some .free →
    ((names.map fun (n, k) => if (k == NameKind.free && env.scope.kind == .function && env.kindOf n == some .cell) then (n, NameKind.cell) else (n, k)).lookup x = some .cell ∨
     (names.map fun (n, k) => if (k == NameKind.free && env.scope.kind == .function && env.kindOf n == some .cell) then (n, NameKind.cell) else (n, k)).lookup x = some .free)
  | [], _, h => by simp at h
  | (n, k) :: r, x, h => by
    have ih := @relabel_free env r x
    rw [List.map_cons]
    cases hx : x == n with
    | true =>
      simp only [List.lookup_cons, hx] at h
      cases h
      dsimp only
      split
      · left; rw [List.lookup_cons, hx]
      · right; rw [List.lookup_cons, hx]
    | false =>
      simp only [List.lookup_cons, hx] at h
      dsimp only
      split
      · simp only [List.lookup_cons, hx]; exact ih h
      · simp only [List.lookup_cons, hx]; exact ih h
theorem relabel_inv {env : Env} : ∀ {names : List (Str × NameKind)} {x : Str} {k : NameKind}, k = .cell ∨ k = .free →
    (names.map fun (n, k) => if (k == NameKind.free && env.scope.kind == .function && env.kindOf n == some .cell) then (n, NameKind.cell) else (n, k)).lookup x = some k → ∃ k', (k' = .cell ∨ k' = .free) ∧ (x, k') ∈ names
  | [], _, _, _, h => by simp at h
  | (n, k) :: r, x, k', hk, h => by
    have ih := @relabel_inv env r x k' hk
    rw [List.map_cons] at h
    cases hx : x == n with
    | true =>
      have : x = n := by simpa using hx
      subst this
      dsimp only at h
      split at h
      · rename_i hc
        rw [List.lookup_cons, hx] at h
        refine ⟨k, .inr ?_, List.mem_cons_self⟩
        simp only [Bool.and_eq_true] at hc
        simpa using hc.1.1
      · rw [List.lookup_cons, hx] at h
        cases h
        exact ⟨_, hk, List.mem_cons_self⟩
    | false =>
      dsimp only at h
      have h' : (r.map fun (n, k) => if (k == NameKind.free && env.scope.kind == .function && env.kindOf n == some .cell) then (n, NameKind.cell) else (n, k)).lookup x = some k' := by
        split at h
        · simpa only [List.lookup_cons, hx] using h
        · simpa only [List.lookup_cons, hx] using h
      obtain ⟨k2, a, b⟩ := ih h'
      exact ⟨k2, a, List.mem_cons_of_mem _ b⟩
def cxComp (X : Cx) (scope : Scope) (N : List Str) (fp : List Addr) (s : Shared) (H : Hp) : Cx :=
  { X with N := N, s₀ := s, H₀ := H, env := compEnvC scope (closG X.env scope.names []) s.heap.objs.size X.env, outer := X.stack, stack := X.stack, ex := fp, fn := fun _ => false, pn := [], xe := fun _ _ => False }
def seen (js : List (Option Nat)) (σ : St) : St := js.map fun o => o.bind fun j => (σ[j]?).join
def compChk (X : Cx) (scope : Scope) (N : List Str) (js : List (Option Nat)) : Bool :=
  (scope.names.all fun p => p.2 != .cell && (p.2 != .free || X.env.kindOf p.1 == some .cell) && (p.2 != .local || scope.names.lookup p.1 == some .local)) &&
  (js.length == N.length) && ((N.zip js).all fun p => match p.2 with | none => true | some j => X.N[j]? == some p.1 && scope.names.lookup p.1 == some .free && X.env.kindOf p.1 == some .cell)
section
variable {X : Cx} {tg iter elt : Expr} {scope : Scope} {N : List Str} {js : List (Option Nat)} {pos : Pos}
theorem comp_start {pins : List (Addr × Obj)} {σ : St} {H : Hp} {s : Shared} {h' : Heap} {fp : List Addr} {t' : Nat} (I : Inv X pins σ H s) (hk : scope.kind = .function) (hck : compChk X scope N js = true)
    (hf : ∀ b ∈ fp, FpOk X pins H b) (hfl : ∀ b ∈ fp, b < s.heap.objs.size) (hns : h'.Ns s.heap.objs.size (fun _ => none)) (kp : ∀ b o, s.heap.get? b = some o → h'.get? b = some o) :
    Inv (cxComp X scope N fp s H) [] (seen js σ) H { s with heap := h', toks := t' } := by
  unfold compChk at hck
  simp only [Bool.and_eq_true] at hck
  obtain ⟨⟨h1, h2⟩, h3⟩ := hck
  have hlen : js.length = N.length := by simpa using h2
  have g1 : ∀ p ∈ scope.names, p.2 ≠ .cell ∧ (p.2 = .free → X.env.kindOf p.1 = some .cell) := fun p hp => by
    have q := List.all_eq_true.mp h1 p hp
    simp only [Bool.and_eq_true, bne_iff_ne, ne_eq, Bool.or_eq_true, beq_iff_eq] at q
    exact ⟨q.1.1, fun e => q.1.2.resolve_left fun z => z e⟩
  have hcl : ∀ p ∈ scope.names, p.2 = .free → ∃ c, X.env.cells.lookup p.1 = some c := fun p hp e => I.ok.has _ (.inl ((g1 p hp).2 e))
  have back : ∀ x c, (closG X.env scope.names []).lookup x = some c → X.env.cells.lookup x = some c := fun x c e => by
    rcases closG_look _ _ hcl e with q | q
    · cases q
    · exact q
  refine ⟨⟨I.ok.mod, ?_, I.ok.glob, I.ok.blt, Nat.le_refl _, fun x y c h1 h2 => I.ok.inj x y c (back _ _ h1) (back _ _ h2), fun x hx => ?_, fun _ _ z => (by cases z), I.ok.hd, I.ok.frames, .inl rfl, fun b hb => ⟨?_, fun x c e => ?_⟩, I.bs, Nat.le_trans I.ok.bsz I.sz, fun b o e hb => ?_, fun b hb => ?_, I.stack, I.stkFree⟩,
    rfl, I.bare, Un.kept kp, ⟨_, hns, fun i x v e1 e2 e3 => ?_⟩, fun x c e => ?_, I.hok.fresh (Nat.le_refl _), fun x c e => I.freeC x c (back _ _ e), fun p hp => (by cases hp), I.hok.kept kp, ?_⟩
  · show (relabel scope X.env).kind = _
    exact hk
  · have hx' : ∃ k, (k = .cell ∨ k = .free) ∧ (relabel scope X.env).names.lookup x = some k := by
      rcases hx with q | q
      · exact ⟨_, .inl rfl, q⟩
      · exact ⟨_, .inr rfl, q⟩
    obtain ⟨k, hk2, q⟩ := hx'
    obtain ⟨k', a, b⟩ := relabel_inv (env := X.env) hk2 q
    rcases a with a | a
    · exact absurd a (g1 _ b).1
    · subst a
      exact closG_has _ _ (.inl b)
  · exact Nat.ne_of_lt (hfl b hb)
  · exact (hf b hb).2.2.2.2.1 x c (back _ _ e)
  · rcases (hf b hb).2.2.2.1 with z | z
    · exact I.ok.noex b o e z
    · exact absurd (Nat.lt_of_lt_of_le (Heap.lt_size e) (Nat.le_trans I.ok.bsz z)) (Nat.lt_irrefl _)
  · intro hb2
    obtain ⟨_, q1, q2, _⟩ := hf b hb
    rcases List.mem_cons.mp (I.stkSub b hb2) with z | z
    · exact q1 z
    · exact q2 z
  · have e1 : N[i]? = some x := e1
    unfold seen at e2
    rw [List.getElem?_map] at e2
    cases ej : js[i]? with
    | none => rw [ej] at e2; cases e2
    | some o =>
      rw [ej] at e2
      cases o with
      | none => cases e2
      | some j =>
        have e2 : (σ[j]?).join = some v := by simpa using e2
        have e4 : σ[j]? = some (some v) := by
          cases q : σ[j]? with
          | none => rw [q] at e2; cases e2
          | some w => rw [q] at e2; cases e2; rfl
        have hz : (N.zip js)[i]? = some (x, some j) := by
          rw [List.getElem?_zip_eq_some]; exact ⟨e1, ej⟩
        have q := List.all_eq_true.mp h3 _ (List.mem_of_getElem? hz)
        simp only [Bool.and_eq_true, beq_iff_eq] at q
        obtain ⟨⟨q1, q2⟩, q3⟩ := q
        obtain ⟨m, hn, hl⟩ := I.loc
        obtain ⟨u, r, l⟩ := hl j x v q1 e4 (.inr (.inl q3))
        refine ⟨u, r, ?_⟩
        rcases l with ⟨l, _⟩ | ⟨_, c, l2, l3⟩
        · rw [q3] at l; cases l
        · obtain ⟨c', hc'⟩ := closG_has (env := X.env) (x := x) scope.names [] (.inl (PySem.mem_of_lookup q2))
          have e5 := back _ _ hc'
          rw [l2] at e5
          cases e5
          refine .inr ⟨?_, c, hc', ?_⟩
          · exact relabel_free q2
          · obtain ⟨o, ho, hd⟩ := l3
            exact ⟨o, kp _ _ ho, hd⟩
  · obtain ⟨v, o, ho, hd⟩ := I.cell x c (back _ _ e)
    exact ⟨v, o, kp _ _ ho, hd⟩
  · show (seen js σ).length = N.length
    unfold seen
    rw [List.length_map, hlen]
theorem compLoop_any {prog : Program} {w : World} {A : Around} {R : Result → Shared → Prop} {s : Shared} {it acc : Value} {env : Env} (I : Nat → Shared → Prop)
    (turn : ∀ n s, I n s → wpAny (model prog w) A (pyNext it) (fun r s₁ => match r with
      | none => R (.ok .next) s₁
      | some v => wpAny (model prog w) A (letOwnedTupleGo tg it v) (fun _ s₁' => wpAny (model prog w) A (assign tg env v) (fun _ s₂ =>
          wpAny (model prog w) A (eval elt env) (fun x s₄ =>
              wpAny (model prog w) A (call (.builtin "list.append") [acc, x]) (fun _ s₅ => ∃ m, m < n ∧ I m s₅) (fun _ _ => False) s₄) (fun _ _ => False) s₂) (fun _ _ => False) s₁') (fun _ _ => False) s₁) (fun _ _ => False) s)
    (n : Nat) (h : I n s) :
    codeAny (model prog w) A (.compLoop (.ListComp elt [⟨tg, iter, [], 0⟩] scope pos) 0 it acc env) R s := by
  refine codeAny_loop rfl I (fun n s hI => ?_) n h
  show wpAny _ A ((compTurn (.ListComp elt [⟨tg, iter, [], 0⟩] scope pos) 0 it acc env).onRaise (fun x => do noteFrame x env; theTreesLotGoes x)) _ _ s
  refine wpAny_noted ?_
  rw [compTurn_list1]
  refine wpAny_bind (wpAny_standAt (wpAny_bind (wpAny_mono (turn n s hI) (fun r s₁ h₁ => ?_) fun _ _ h' => h'.elim)))
  cases r with
  | none => exact wpAny_pure h₁
  | some v =>
    refine wpAny_bind (wpAny_mono h₁ (fun _ s₁' h₁' => ?_) fun _ _ h' => h'.elim)
    refine wpAny_bind (wpAny_mono h₁' (fun _ s₂ h₂ => ?_) fun _ _ h' => h'.elim)
    exact wpAny_bind (wpAny_bind (wpAny_mono h₂ (fun x s₄ h₄ => wpAny_bind (wpAny_mono h₄ (fun _ s₅ h₅ => wpAny_pure (wpAny_pure ⟨rfl, h₅⟩)) fun _ _ h' => h'.elim)) fun _ _ h' => h'.elim))
def tComp (js : List (Option Nat)) (wi : TI) (g : TG) (te : TE) : TE := fun σ H Q => wi σ H fun J H1 => ∀ D, H1 D = none → ∃ W : Nat → Nat → St → Hp → Prop, (∃ m, W 0 m (seen js σ) (upd H1 D (.lst []))) ∧
  ∀ i m σ' H', W i m σ' H' → (J.stop i H' ∧ Q (.ref D) H') ∨ (J.go i H' ∧ ∀ x H2, J.yld i H' x H2 → g x σ' H2 fun σ3 H3 => te σ3 H3 fun v H4 => ∃ xs, H4 D = some (.lst xs) ∧ xs.length < sizeLine ∧ ∃ m', m' < m ∧ W (i + 1) m' σ3 (upd H4 D (.lst (xs ++ [v]))))
theorem comp_core {wi : TI} {g : TG} {te : TE} {use : Option (Value → Sem Unit)} {Qv : Value → Shared → Prop} (hc : X.calm = true) (hi : PI X tg iter wi) (hk : scope.kind = .function) (hck : compChk X scope N js = true)
    (hg : ∀ fp s H, PG (cxComp X scope N fp s H) tg g) (he : ∀ fp s H, PE (cxComp X scope N fp s H) elt te)
    (hs : ∀ x, foldedSetIterable iter X.env x = pure x)
    {pins : List (Addr × Obj)} {σ : St} {H : Hp} {s : Shared} {Q : VK} (I : Inv X pins σ H s) (h : tComp js wi g te σ H Q)
    (hend : ∀ (D C : Addr) (H' : Hp) (s' : Shared), Inv X pins σ H' s' → (∃ m, s'.heap.Ns C m) → FpOk X pins H' C → Q (.ref D) H' → compPost (model X.prog X.w) X.A X.xe use Qv (.ref D) C (.ok .next) s') :
    wpAny (model X.prog X.w) X.A (comprehension (.ListComp elt [⟨tg, iter, [], 0⟩] scope pos) scope X.env (firstIterPos [⟨tg, iter, [], 0⟩] pos) (newList []) false (eval iter X.env) use) Qv X.xe s := by
  have hck' := hck
  unfold compChk at hck'
  simp only [Bool.and_eq_true] at hck'
  obtain ⟨⟨h1, _⟩, _⟩ := hck'
  have g1 : ∀ p ∈ scope.names, p.2 ≠ .cell ∧ (p.2 = .free → X.env.kindOf p.1 = some .cell) ∧ (p.2 = .local → scope.names.lookup p.1 = some .local) := fun p hp => by
    have q := List.all_eq_true.mp h1 p hp
    simp only [Bool.and_eq_true, bne_iff_ne, ne_eq, Bool.or_eq_true, beq_iff_eq] at q
    exact ⟨q.1.1, fun e => q.1.2.resolve_left fun z => z e, fun e => q.2.resolve_left fun z => z e⟩
  have hcl : ∀ p ∈ scope.names, p.2 = .free → ∃ c, X.env.cells.lookup p.1 = some c := fun p hp e => I.ok.has _ (.inl ((g1 p hp).2.1 e))
  refine wpAny_comprehension_free (use := use) (g := ⟨tg, iter, [], 0⟩) (gs := []) rfl hs (closureFor_G hcl) hk (fun p hp e => (g1 p hp).2.2 e) ?_
  refine thn (hi pins s σ H _ I h) fun v s1 h1 => thn h1 fun itv s2 h2 => ?_
  obtain ⟨it, fp, tn, J, H2, e, I2, T, st2, f2, hW⟩ := h2
  subst e
  have hfl : ∀ b ∈ fp, b < s2.heap.objs.size := fun b hb => by
    obtain ⟨o, ho, _⟩ := T.obj _ _ st2 b hb
    exact Heap.lt_size ho
  have hD : H2 s2.heap.objs.size = none := I2.hok.fresh (Nat.le_refl _)
  obtain ⟨W, ⟨m0, w0⟩, turn⟩ := hW _ hD
  refine wpAny_newObj_type (wpAny_newFunctionEnv (fun x hx => (g1 x hx).1) (by intro y hy; simp at hy) (fun h₁ hns₁ hsb₁ => ?_) hk)
  dsimp only at hns₁ hsb₁ ⊢
  have I3 : Inv X pins σ (upd H2 s2.heap.objs.size (.lst [])) { s2 with heap := s2.heap.push { cls := .type "list", dict := none, data := .seq ([] : List Value).toArray }, toks := s2.toks } :=
    I2.laid (t' := s2.toks) (fun b u e => Heap.get?_push_of_some _ e) (Nat.le_refl _) ⟨Nat.zero_le _, [], 0, .nil, Heap.get?_push_size _ rfl⟩
  generalize hs3 : ({ s2 with heap := s2.heap.push { cls := .type "list", dict := none, data := .seq ([] : List Value).toArray }, toks := s2.toks } : Shared) = s3 at I3
  have hh3 : s3.heap = s2.heap.push { cls := .type "list", dict := none, data := .seq ([] : List Value).toArray } := by rw [← hs3]
  have e3 : ({ s2 with heap := h₁, toks := s2.toks + ([] : List (Str × Value)).length } : Shared) = { s3 with heap := h₁, toks := s3.toks } := by rw [← hs3]; rfl
  rw [e3]
  rw [← hh3] at hns₁ hsb₁ ⊢
  generalize hH3 : upd H2 s2.heap.objs.size (.lst []) = H3 at I3 w0
  generalize hDs : s2.heap.objs.size = D at *
  have f3 : ∀ b ∈ fp, FpOk X pins H3 b := fun b hb => by
    refine ⟨?_, (f2 b hb).2⟩
    rw [← hH3, upd_ne (Nat.ne_of_lt (hfl b hb))]
    exact (f2 b hb).1
  have szD : s3.heap.objs.size = D + 1 := by rw [hh3, Heap.size_push]; rw [← hDs]
  have hfl3 : ∀ b ∈ fp, b < s3.heap.objs.size := fun b hb => Nat.lt_of_lt_of_le (hfl b hb) (by rw [szD]; exact Nat.le_succ _)
  have kp : ∀ b o, s3.heap.get? b = some o → h₁.get? b = some o := fun b o e => by
    rw [hsb₁.2 b (Nat.ne_of_lt (Heap.lt_size e))]
    exact Heap.get?_push_of_some _ e
  have st3 : tn 0 h₁ := T.keep 0 _ _ st2 fun b hb o e => kp b o (by rw [hh3]; exact Heap.get?_push_of_some _ e)
  have J0 : Inv (cxComp X scope N fp s3 H3) [] (seen js σ) H3 { s3 with heap := h₁, toks := s3.toks } := comp_start I3 hk hck f3 hfl3 hns₁ kp
  have fpc : ∀ {H' : Hp}, (∀ b ∈ fp, H' b = none) → ∀ b ∈ fp, FpOk (cxComp X scope N fp s3 H3) [] H' b := fun hn b hb =>
    ⟨hn b hb, (J0.ok.exf b hb).1, J0.ok.exfs b hb, .inl hb, (J0.ok.exf b hb).2, fun p hp => by cases hp⟩
  have lp : codeAny (model X.prog X.w) X.A (.compLoop (.ListComp elt [⟨tg, iter, [], 0⟩] scope pos) 0 (.ref it) (.ref D) (compEnvC scope (closG X.env scope.names []) s3.heap.objs.size X.env))
      (compPost (model X.prog X.w) X.A X.xe use Qv (.ref D) s3.heap.objs.size) { s3 with heap := h₁, toks := s3.toks } := by
    refine compLoop_any (fun n s' => ∃ i σ' H', Inv (cxComp X scope N fp s3 H3) [] σ' H' s' ∧ tn i s'.heap ∧ (∀ b ∈ fp, H' b = none) ∧ W i n σ' H') ?_ m0 ⟨0, _, H3, J0, st3, fun b hb => (f3 b hb).1, w0⟩
    rintro n s4 ⟨i, σ4, H4, I4, st4, fr4, w4⟩
    rcases turn i n σ4 H4 w4 with ⟨stop, qn⟩ | ⟨go, step⟩
    · refine thn (T.done (cxComp X scope N fp s3 H3) rfl rfl rfl hc i [] s4 σ4 H4 (fun _ _ => False) I4 (fpc fr4) st4 stop) fun r s5 ⟨hr, I5⟩ => ?_
      subst hr
      have I6 : Inv X pins σ H4 s5 := I3.call' (ch := fp) I5.os I5.base I5.hok I5.bare fun b hb => ⟨(f3 b hb).2.2.2.1, (f3 b hb).2.1, (f3 b hb).2.2.2.2.1, (f3 b hb).2.2.2.2.2⟩
      have fC : FpOk X pins H4 s3.heap.objs.size := I3.fpOk (Nat.le_refl _) I5.free
      obtain ⟨m, hn, _⟩ := I5.loc
      exact hend D s3.heap.objs.size H4 s5 I6 ⟨m, hn⟩ fC qn
    · refine thn (T.item (cxComp X scope N fp s3 H3) rfl rfl rfl hc i [] s4 σ4 H4 (fun _ _ => False) I4 (fpc fr4) st4 go) fun r s5 ⟨u, hr, h5⟩ => ?_
      subst hr
      refine thn h5 fun _ s6 ⟨x, H6, I6, r6, y6, st6, fr6⟩ => ?_
      have I6' := I6.pinned (fpc fr6) (T.obj _ _ st6)
      refine thn (hg fp s3 H3 _ s6 σ4 H6 x u _ I6' r6 (step x H6 y6)) fun _ s7 ⟨σ7, H7, I7, q7⟩ => ?_
      refine thn (he fp s3 H3 _ s7 σ7 H7 _ I7 q7) fun u8 s8 ⟨v8, H8, I8, r8, xs, e8, l8, m', hm, w8⟩ => ?_
      refine thn (mt_append _ s8 σ7 H8 (.ref D) [v8] (.ref D) [u8] (fun _ H9 => H9 = upd H8 D (.lst (xs ++ [v8]))) I8 rfl (.cons r8 .nil) ⟨D, xs, v8, rfl, rfl, e8, l8, rfl⟩) fun _ s9 ⟨v9, H9, I9, _, e9⟩ => ?_
      subst e9
      refine ⟨m', hm, i + 1, σ7, _, I9.unpinned, T.keep _ _ _ st6 fun b hb o e => (I9.pin (b, o) (List.mem_append_right _ (List.mem_append_right _ (mem_pinsAt hb e)))).1, fun b hb => ?_, w8⟩
      obtain ⟨o, e, d⟩ := T.obj _ _ st6 b hb
      exact (I9.pin (b, o) (List.mem_append_right _ (List.mem_append_right _ (mem_pinsAt hb e)))).2.1
  exact codeAny_compStart_list lp (T.self _ 0 _ _ _ st3 lp)
theorem pe_comp {wi : TI} {g : TG} {te : TE} (N : List Str) (js : List (Option Nat)) (hc : X.calm = true) (hi : PI X tg iter wi)
    (hg : ∀ fp s H, PG (cxComp X scope N fp s H) tg g) (he : ∀ fp s H, PE (cxComp X scope N fp s H) elt te) (hk : scope.kind = .function := by rfl) (hck : compChk X scope N js = true := by rfl)
    (hs : ∀ x, foldedSetIterable iter X.env x = pure x := by intro _; rfl) : PE X (.ListComp elt [⟨tg, iter, [], 0⟩] scope pos) (tComp js wi g te) := by
  intro pins s σ H Q I h
  rw [eval_ListComp]
  refine comp_core (use := none) hc hi hk hck hg he hs I h fun D C H' s' I' hC fC q => ?_
  obtain ⟨m, hn⟩ := hC
  refine ⟨m, hn, fun h' sb => ?_⟩
  obtain ⟨f0, f1, f2, f3, f4, f5⟩ := fC
  exact ⟨.ref D, H', I'.turned (t' := s'.toks) (fun b o hb e => (sb.2 b hb).trans e) f0 f1 f3 f4 f5, rfl, q⟩
end
end L2
set_option maxRecDepth 100000
namespace L2
open PySem PySem.Spec PyProof.Rows
section
variable {X : Cx}
def CDivL (_ j : Int) : Prop := 0 < j ∧ j < 2 ^ 250
theorem log2_small {j : Int} (h0 : 0 < j) (h : j < 2 ^ 250) : j.natAbs.log2 < 9000 := by
  have h1 : j.natAbs < 2 ^ 250 := by
    have e : (j.natAbs : Int) = j := Int.natAbs_of_nonneg (Int.le_of_lt h0)
    have : ((j.natAbs : Nat) : Int) < ((2 ^ 250 : Nat) : Int) := by rw [e]; exact h
    exact Int.ofNat_lt.mp this
  have h2 : j.natAbs ≠ 0 := by omega
  exact Nat.lt_of_lt_of_le ((Nat.log2_lt h2).mpr h1) (by decide)
theorem op_fdivL : OpR X (binaryOp .FloorDiv) (rI CDivL fun i j => .int (i / j)) := opI fun i j _ _ _ _ _ hc q => by
  refine floordiv_int (by have := hc.1; omega) ?_ (.inl (PyProof.noPylong_of_log2 (log2_small hc.1 hc.2)))
  rw [Int.fdiv_eq_ediv_of_nonneg _ (Int.le_of_lt hc.1)]
  exact q
def subTy (a b : String) : Bool := a == b || (a == "bool" && b == "int")
theorem kit_sub {K : PySem.W.Frag} {t n : String} (ht : t = "NoneType" ∨ t = "bool" ∨ t = "int" ∨ t = "str") (hn : n = "int" ∨ n = "bool" ∨ n = "str" ∨ n = "list" ∨ n = "tuple" ∨ n = "dict") : PySem.W.kitOne K (.type t) (.type n) = some (subTy t n) := by
  rcases ht with rfl | rfl | rfl | rfl <;> rcases hn with rfl | rfl | rfl | rfl | rfl | rfl <;> kernel_rfl
theorem pe_ty {x : Str} {n : String} {pos : Pos} (hg : Gl X x) (hm : X.mg x = none) (hv : bootBuiltins x = some (.type n)) (hn : x ≠ "__name__" := by decide) (hd : (x == ("__debug__" : Str)) = false := by decide) : PE X (.Name x pos) (tC (.ty n)) :=
  pe_bltn hg hm hv rfl hn hd
theorem boot_isinstance : bootBuiltins "isinstance" = some (.builtin "isinstance") := by decide +kernel
theorem boot_int : bootBuiltins "int" = some (.type "int") := by decide +kernel
theorem boot_bool : bootBuiltins "bool" = some (.type "bool") := by decide +kernel
theorem boot_strT : bootBuiltins "str" = some (.type "str") := by decide +kernel
end
structure FunD (K : PySem.W.Frag) (x qual : Str) (st : Stmt) (dV : Value) (f : Addr) (fd : FuncData) : Prop where
  ex : ∃ (oc : Value) (od : Option Addr) (kV doc pm : Value) (an : Option Addr) (cdv ct : Value) (osl : Array (Option Value)),
    fd = PySem.W.fnOf x qual (defArgs st) (defBody st) (defScope st) dV kV doc pm an cdv ct ∧ K.lookup f = some ⟨oc, od, .func fd, osl⟩ ∧ PySem.W.codeIn K cdv qual = true
  kp : PySem.W.keepIn K (.ref f) = true
section
variable {P : Program} {w : World} {K : PySem.W.Frag} {mg : Str → Option Value} {base : Heap}
theorem FunD.ok {x qual : Str} {st : Stmt} {dV : Value} {f : Addr} {fd : FuncData} {N ps : List Str} {k : Nat} {sp : Sp} (F : FunD K x qual st dV f fd) (S : FnScope N ps (defScope st)) (len : ∀ vs H Q E, sp vs H Q E → vs.length = ps.length)
    (hbody : ∀ (cdv : Value) (A : Around) (outer : List Env) (s : Shared) (H : Hp) (vs : List V) (Q : VK) (E : XK), Room k (A.deeper (envOfC qual (defScope st) s.heap.objs.size f cdv)) → sp vs H Q E →
      ∃ t, PSs (cxOf CX0 P w K mg base N qual (defScope st) f cdv A outer s H E).nox (defBody st) t ∧ t { nx := fun _ H' => Q .non H', rt := Q } (start N vs) H) : FnOk P w K mg base CX0 (k + 1) f fd ps sp := by
  obtain ⟨oc, od, kV, doc, pm, an, cdv, ct, osl, rfl, lk, hcd⟩ := F.ex
  refine fn_of lk hcd S len fun A outer s H vs Q E hr hsp => ?_
  obtain ⟨t, h, q⟩ := hbody cdv A outer s H vs Q E hr hsp
  exact ⟨t, h.nox, q⟩
theorem fund_mk {x qual : Str} {st : Stmt} {f : Addr} {oc dV : Value} {od an : Option Addr} {osl : Array (Option Value)} {kV doc pm cdv ct : Value} (l : K.lookup f = some ⟨oc, od, .func (PySem.W.fnOf x qual (defArgs st) (defBody st) (defScope st) dV kV doc pm an cdv ct), osl⟩)
    (c : PySem.W.codeIn K cdv qual = true) (k : PySem.W.keepIn K (.ref f) = true) : FunD K x qual st dV f (PySem.W.fnOf x qual (defArgs st) (defBody st) (defScope st) dV kV doc pm an cdv ct) := ⟨⟨oc, od, kV, doc, pm, an, cdv, ct, osl, rfl, l, c⟩, k⟩
theorem FunD.binds {x qual : Str} {st : Stmt} {T f : Addr} {fd : FuncData} {ps : List Str} {ds dvs : List Value} {tc : Value} {td : Option Addr} {n : Nat} {tsl : Array (Option Value)} (m : Nat) (hm : m + ds.length = ps.length) (F : FunD K x qual st (.ref T) f fd) (ht : K.lookup T = some ⟨tc, td, .seq dvs.toArray n, tsl⟩)
    (h : ∀ (kV doc pm : Value) (an : Option Addr) (cdv ct : Value) (us : List Value), us.length = m → ∃ k, bindArgs (PySem.W.fnOf x qual (defArgs st) (defBody st) (defScope st) (.ref T) kV doc pm an cdv ct) ⟨us, []⟩ = seqItems? (.ref T) >>= k ∧ k (some dvs.toArray) = pure (ps.zip (us ++ ds))) : Binds K fd ps ds := by
  obtain ⟨oc, od, kV, doc, pm, an, cdv, ct, osl, rfl, lk, hcd⟩ := F.ex
  intro s us X hl
  rw [List.length_append] at hl
  obtain ⟨k, h1, h2⟩ := h kV doc pm an cdv ct us (by omega)
  exact PySem.W.binds_K X rfl ht rfl h1 h2
def gAB {α : Type} (a b : Nat) (us ws : List α) : List α := if us.length = a ∧ ws.length = b then us ++ ws else []
theorem gAB_rel {a b : Nat} {vs : List V} {us : List Value} {zs : List V} {ws : List Value} (r : Vals vs us) (q : Vals zs ws) : Vals (gAB a b vs zs) (gAB a b us ws) := by
  unfold gAB
  rw [r.length, q.length]
  split
  · exact r.append q
  · exact .nil
theorem FunD.kbinds {x qual : Str} {st : Stmt} {T f : Addr} {fd : FuncData} {ps ks : List Str} {dvs : List Value} {tc : Value} {td : Option Addr} {n : Nat} {tsl : Array (Option Value)} (a b : Nat) (hab : 0 < ps.length)
    (F : FunD K x qual st (.ref T) f fd) (ht : K.lookup T = some ⟨tc, td, .seq dvs.toArray n, tsl⟩)
    (h : ∀ (kV doc pm : Value) (an : Option Addr) (cdv ct : Value) (us ws : List Value), us.length = a → ws.length = b → ∃ k, bindArgs (PySem.W.fnOf x qual (defArgs st) (defBody st) (defScope st) (.ref T) kV doc pm an cdv ct) ⟨us, ks.zip ws⟩ = seqItems? (.ref T) >>= k ∧ k (some dvs.toArray) = pure (ps.zip (us ++ ws))) : KBinds K fd ps ks (gAB a b) (gAB a b) := by
  obtain ⟨oc, od, kV, doc, pm, an, cdv, ct, osl, rfl, lk, hcd⟩ := F.ex
  refine ⟨fun s us ws X hl => ?_, gAB_rel⟩
  have hc : us.length = a ∧ ws.length = b := by
    unfold gAB at hl
    split at hl
    · assumption
    · rw [List.length_nil] at hl; omega
  obtain ⟨k, h1, h2⟩ := h kV doc pm an cdv ct us ws hc.1 hc.2
  have e : gAB a b us ws = us ++ ws := by unfold gAB; rw [if_pos hc]
  rw [e]
  exact PySem.W.binds_K X rfl ht rfl h1 h2
end
end L2
set_option maxRecDepth 100000
namespace L2
open PySem PySem.Spec PyProof.Rows
section
variable {X : Cx}
def intsOf : List V → Option (List Int)
  | [] => some []
  | .int i :: r => match intsOf r with
    | some ns => some (i :: ns)
    | none => none
  | _ :: _ => none
theorem intsOf_eq : ∀ {vs : List V} {ns : List Int}, intsOf vs = some ns → vs = ns.map V.int
  | [], ns, h => by cases h; rfl
  | .int i :: r, ns, h => by
    unfold intsOf at h
    cases e : intsOf r with
    | none => rw [e] at h; cases h
    | some ms => rw [e] at h; cases h; rw [intsOf_eq e]; rfl
  | .non :: _, _, h => by cases h
  | .bl _ :: _, _, h => by cases h
  | .str _ :: _, _, h => by cases h
  | .byt _ :: _, _, h => by cases h
  | .flt _ :: _, _, h => by cases h
  | .ref _ :: _, _, h => by cases h
  | .ty _ :: _, _, h => by cases h
def menu (ns : List Int) (k : Int) : Int := ns.getD k.toNat 0
def tMenu (t : TA) (ti : TE) : TE := fun σ H Q => t σ H fun vs H1 => vs.length ≤ 1000 ∧ ti σ H1 fun i H2 => ∃ ns k, intsOf vs = some ns ∧ i = .int k ∧ 0 ≤ k ∧ k < (ns.length : Int) ∧ (ns.length : Int) < 1000 ∧ Q (.int (menu ns k)) H2
theorem menu_all {P : Int → Prop} {ns : List Int} {k : Int} (h : ∀ x ∈ ns, P x) (h0 : 0 ≤ k) (h1 : k < (ns.length : Int)) : P (menu ns k) := by
  have hl : k.toNat < ns.length := by omega
  unfold menu
  rw [List.getD_eq_getElem?_getD, List.getElem?_eq_getElem hl, Option.getD_some]
  exact h _ (List.getElem_mem hl)
theorem le_line {n : Nat} (h : n ≤ 1000) : n ≤ sizeLine := Nat.le_trans h (by decide)
theorem pe_menu {es : List Expr} {idx : Expr} {t : TA} {ti : TE} {p pos : Pos} (h : PA X es t) (hb : PE X idx ti) (hs : PlainIx idx) : PE X (.Subscript (.List es p) idx pos) (tMenu t ti) := by
  intro pins s σ H Q I hq
  refine Subscript_ ?_
  refine wpAny_List_spliced (thn (h p pins s σ H _ I hq) fun us s1 ⟨xs, H1, I1, r, e, q⟩ => ⟨?_, ?_⟩)
  · rw [← r.length]; exact le_line e
  have hf : H1 s1.heap.objs.size = none := I1.hok.fresh (Nat.le_refl _)
  have I2 : Inv X pins σ H1 { s1 with heap := s1.heap.push { cls := .type "list", data := .seq us.toArray }, toks := s1.toks } := I1.kept (t' := s1.toks) fun b u e => Heap.get?_push_of_some _ e
  have hp := I1.fpOk (H' := H1) (Nat.le_refl _) hf
  have I3 : Inv X (pins ++ [(s1.heap.objs.size, ({ cls := .type "list", data := .seq us.toArray } : Obj))]) σ H1 { s1 with heap := s1.heap.push { cls := .type "list", data := .seq us.toArray }, toks := s1.toks } :=
    I2.pins_of fun q hq => (List.mem_append.mp hq).elim (fun z => I2.pin q (List.mem_append_right _ z)) fun z => by
      have e : q = (s1.heap.objs.size, ({ cls := .type "list", data := .seq us.toArray } : Obj)) := by simpa using z
      subst e
      exact ⟨Heap.get?_push_size _ rfl, hf, hp.2.1, hp.2.2.1, fun v => by intro z; cases z⟩
  refine thn (hb _ _ σ H1 _ I3 q) fun u s4 ⟨y, H4, I4, r4, q4⟩ => ?_
  obtain ⟨ns, k, e1, rfl, h0, h1, h2, qq⟩ := q4
  obtain ⟨tk, rfl⟩ := r4
  have e2 := intsOf_eq e1
  subst e2
  have hl : k.toNat < ns.length := by omega
  have hx : (ns.map V.int)[k.toNat]? = some (.int (menu ns k)) := by
    rw [List.getElem?_map, List.getElem?_eq_getElem hl]
    unfold menu
    rw [List.getD_eq_getElem?_getD, List.getElem?_eq_getElem hl]
    rfl
  obtain ⟨w, ew, rw'⟩ := r.get hx
  have hpin := (I4.pin (s1.heap.objs.size, { cls := .type "list", data := .seq us.toArray }) (List.mem_append_right _ (List.mem_append_right _ List.mem_cons_self))).1
  exact item_listR (items := us.toArray) ⟨_, hpin, rfl, 0, rfl⟩ h0 (by omega) (by simpa using ew) ⟨.int (menu ns k), H4, I4.unpinned, rw', qq⟩ (hs _ _)
def CPowS (i j : Int) : Prop := 0 ≤ j ∧ j ≤ 1000000 ∧ -(2 ^ 64) < i ∧ i < 2 ^ 64
theorem op_powS : OpR X (binaryOp .Pow) (rI CPowS fun i j => .int (i ^ j.toNat)) := opI fun i j _ _ _ _ _ hc q => pow_int_small hc.1 hc.2.1 (by have := hc.2.2; omega) q
def tTupS (t : TA) : TE := fun σ H Q => t σ H fun xs H1 => xs.length ≤ 1000 ∧ ∀ p, H1 p = none → Q (.ref p) (upd H1 p (.tup xs))
def tLstS (t : TA) : TE := fun σ H Q => t σ H fun xs H1 => xs.length ≤ 1000 ∧ ∀ p, H1 p = none → Q (.ref p) (upd H1 p (.lst xs))
theorem pe_tupS {es : List Expr} {t : TA} {x1} {pos : Pos} (h : PA X es t) : PE X (.Tuple es x1 pos) (tTupS t) := by
  intro pins s σ H Q I hq
  refine wpAny_Tuple_spliced (thn (h pos pins s σ H _ I hq) fun us s1 ⟨xs, H1, I1, r, z, q⟩ => ⟨by rw [← r.length]; exact le_line z, ?_⟩)
  have hf : H1 s1.heap.objs.size = none := I1.hok.fresh (Nat.le_refl _)
  refine ⟨.ref s1.heap.objs.size, upd H1 s1.heap.objs.size (.tup xs), I1.laid (t' := s1.toks) (fun b u e => Heap.get?_push_of_some _ e) (Nat.le_refl _) ?_, rfl, q _ hf⟩
  exact ⟨le_line z, us, r, ⟨_, Heap.get?_push_size _ rfl, rfl, _, rfl⟩⟩
theorem pe_lstS {es : List Expr} {t : TA} {pos : Pos} (h : PA X es t) : PE X (.List es pos) (tLstS t) := by
  intro pins s σ H Q I hq
  refine wpAny_List_spliced (thn (h pos pins s σ H _ I hq) fun us s1 ⟨xs, H1, I1, r, z, q⟩ => ⟨by rw [← r.length]; exact le_line z, ?_⟩)
  have hf : H1 s1.heap.objs.size = none := I1.hok.fresh (Nat.le_refl _)
  refine ⟨.ref s1.heap.objs.size, upd H1 s1.heap.objs.size (.lst xs), I1.laid (t' := s1.toks) (fun b u e => Heap.get?_push_of_some _ e) (Nat.le_refl _) ?_, rfl, q _ hf⟩
  exact ⟨le_line z, us, 0, r, Heap.get?_push_size _ rfl⟩
end
theorem seq_cut {t u : TS} {D : Ends} {σ : St} {H : Hp} (M : St → Hp → Prop) (h1 : ∀ N : St → Hp → Prop, (∀ σ' H', M σ' H' → N σ' H') → t { D with nx := N } σ H) (h2 : ∀ σ' H', M σ' H' → u D σ' H') : tSeq t u D σ H := h1 (u D) h2
end L2
namespace L2
theorem seq_cut2 {t t2 u : TS} {D : Ends} {σ : St} {H : Hp} (M : St → Hp → Prop) (h1 : ∀ N : St → Hp → Prop, (∀ σ' H', M σ' H' → N σ' H') → tSeq t t2 { D with nx := N } σ H) (h2 : ∀ σ' H', M σ' H' → u D σ' H') : tSeq t (tSeq t2 u) D σ H := h1 (u D) h2
theorem seq_cut3 {t t2 t3 u : TS} {D : Ends} {σ : St} {H : Hp} (M : St → Hp → Prop) (h1 : ∀ N : St → Hp → Prop, (∀ σ' H', M σ' H' → N σ' H') → tSeq t (tSeq t2 t3) { D with nx := N } σ H) (h2 : ∀ σ' H', M σ' H' → u D σ' H') : tSeq t (tSeq t2 (tSeq t3 u)) D σ H := h1 (u D) h2
theorem seq_cut4 {t t2 t3 t4 u : TS} {D : Ends} {σ : St} {H : Hp} (M : St → Hp → Prop) (h1 : ∀ N : St → Hp → Prop, (∀ σ' H', M σ' H' → N σ' H') → tSeq t (tSeq t2 (tSeq t3 t4)) { D with nx := N } σ H) (h2 : ∀ σ' H', M σ' H' → u D σ' H') : tSeq t (tSeq t2 (tSeq t3 (tSeq t4 u))) D σ H := h1 (u D) h2
end L2
set_option maxRecDepth 100000
namespace L2
open PySem PySem.Spec PyProof.Rows
section
variable {X : Cx}
theorem sl_listK (K : PySem.W.Frag) (hK : X.K = K := by rfl) : SlR X (rSlL K) := by subst hK; exact sl_list
theorem ix_listK (K : PySem.W.Frag) (hK : X.K = K := by rfl) : IxR X (rIxL K) := by subst hK; exact ix_list
theorem ix_tupK (K : PySem.W.Frag) (hK : X.K = K := by rfl) : IxR X (rIxT K) := by subst hK; exact ix_tup
theorem call_lenK (K : PySem.W.Frag) (hK : X.K = K := by rfl) : CallR X (.builtin "len") (fun xs H Q => ∃ p ys, xs = [.ref p] ∧ (SqL K H p ys ∨ SqT K H p ys) ∧ Q (.int ys.length) H) := by subst hK; exact call_len_seq
theorem pi_tupK {tg l : Expr} {tl : TE} (K : PySem.W.Frag) (hl : PE X l tl) (hK : X.K = K := by rfl) : PI X tg l (iTup K tl) := by subst hK; exact pi_tup hl
theorem pg_tupK {es : List Expr} {k : Nat} {t : TGs} {n : Nat} {pos : Pos} (K : PySem.W.Frag) (hc : X.calm = true) (h : PGs X es t) (hn : (assignEach es X.env).length = n := by rfl) (hst : (assignEach es X.env).findIdx? (·.1) = none := by rfl) (hK : X.K = K := by rfl) : PG X (.Tuple es k pos) (gTup K n t) := by subst hK; exact pg_tup hc h hn hst
end
def TSame (H H' : Hp) : Prop := ∀ b xs, H b = some (.tup xs) → H' b = some (.tup xs)
theorem Same.tup {H H' : Hp} (h : Same H H') : TSame H H' := fun b xs e => h b _ e
theorem TSame.trans {H H1 H2 : Hp} (a : TSame H H1) (b : TSame H1 H2) : TSame H H2 := fun c o h => b c o (a c o h)
theorem Same.upd {H H' : Hp} {p : Addr} {o : HO} (s : Same H H') (h : H p = none) : Same H (upd H' p o) := fun b u e => by
  rw [upd_ne (ne_of_none e h)]; exact s b u e
theorem Same.new {H : Hp} {p : Addr} {o : HO} (h : H p = none) : Same H (L2.upd H p o) := (Same.refl H).upd h
theorem Same.none {H H' : Hp} (s : Same H H') {p : Addr} (h : H' p = none) : H p = none := s.free h
end L2
set_option maxRecDepth 100000
namespace L2
open PySem PySem.Spec PyProof.Rows
end L2
set_option maxRecDepth 100000
namespace L2
open PySem PySem.Spec PyProof.Rows
theorem three {α : Type} {ys : List α} (h : ys.length = 3) : ∃ a b c, ys = [a, b, c] := by
  match ys, h with
  | [a, b, c], _ => exact ⟨a, b, c, rfl⟩
end L2
namespace L2
open PySem PySem.Spec PyProof.Rows
def rIxH : R2 := fun x y H Q => ∃ p xs i v, x = .ref p ∧ y = .int i ∧ H p = some (.lst xs) ∧ atI xs i = some v ∧ Q v H
theorem ix_lst {X : Cx} : IxR X rIxH := fun value slice pins s σ H x y v u Q I rx ry h hs =>
  ix_list value slice pins s σ H x y v u Q I rx ry (let ⟨p, xs, i, w, e1, e2, e3, e4, q⟩ := h; ⟨p, xs, i, w, e1, e2, SqL.of e3, e4, q⟩) hs
theorem atI_0 {α : Type} (a : α) (l : List α) : atI (a :: l) 0 = some a := by exact atI_nat (j := 0) rfl
theorem atI_1 {α : Type} (a b : α) (l : List α) : atI (a :: b :: l) 1 = some b := by exact atI_nat (j := 1) rfl
theorem atI_2 {α : Type} (a b c : α) (l : List α) : atI (a :: b :: c :: l) 2 = some c := by exact atI_nat (j := 2) rfl
theorem atI_3 {α : Type} (a b c d : α) (l : List α) : atI (a :: b :: c :: d :: l) 3 = some d := by exact atI_nat (j := 3) rfl
theorem atI_4 {α : Type} (a b c d e : α) (l : List α) : atI (a :: b :: c :: d :: e :: l) 4 = some e := by exact atI_nat (j := 4) rfl
end L2
set_option maxRecDepth 100000
namespace L2
open PySem PySem.Spec PyProof.Rows
section
variable {X : Cx}
end
end L2
set_option maxRecDepth 100000
namespace L2
open PySem PySem.Spec PyProof.Rows
def FlyAt (h : Heap) (ea T : Addr) (cls : Value) (dx : Option Addr) (fl : Value) : Prop :=
  ∃ oe vs oT ts a0, h.get? ea = some oe ∧ oe.cls = cls ∧ oe.dict = dx ∧ oe.data = .fields vs ∧ vs[0]? = some a0 ∧ vs[1]? = some (.ref T) ∧ T ≠ ea ∧ h.get? T = some oT ∧ oT.data = .fields ts ∧ ts[3]? = some fl
abbrev Fly (h : Heap) (ea T : Addr) (cls : Value) (dx : Option Addr) : Prop := FlyAt h ea T cls dx .none
def Made (h : Heap) (ea : Addr) (cls : Value) (dx : Option Addr) : Prop := ∃ oe vs a0, h.get? ea = some oe ∧ oe.cls = cls ∧ oe.dict = dx ∧ oe.data = .fields vs ∧ vs[0]? = some a0 ∧ vs[1]? = some .none
structure Moved (h h' : Heap) (fs ch : List Addr) : Prop where
  keep : ∀ b o, h.get? b = some o → b ∉ ch → b ∉ fs → h'.get? b = some o
  slot : ∀ b o, h.get? b = some o → b ∉ ch → b ∈ fs → ∃ sl, h'.get? b = some { o with slots := sl }
theorem Moved.one {h h' : Heap} {fs : List Addr} {T : Addr} (k : ∀ b, b ≠ T → h'.get? b = h.get? b) : Moved h h' fs [T] :=
  ⟨fun b o e n _ => by rw [k b (by simpa using n)]; exact e, fun b o e n _ => ⟨o.slots, by rw [k b (by simpa using n)]; exact e⟩⟩
theorem Moved.trans {h h1 h2 : Heap} {fs ch ch' : List Addr} (a : Moved h h1 fs ch) (b : Moved h1 h2 fs ch') : Moved h h2 fs (ch ++ ch') :=
  ⟨fun c o e n m => b.keep c o (a.keep c o e (fun z => n (List.mem_append_left _ z)) m) (fun z => n (List.mem_append_right _ z)) m, fun c o e n m => by
    obtain ⟨sl, e1⟩ := a.slot c o e (fun z => n (List.mem_append_left _ z)) m
    obtain ⟨sl', e2⟩ := b.slot c _ e1 (fun z => n (List.mem_append_right _ z)) m
    exact ⟨sl', e2⟩⟩
theorem Moved.less {h h' : Heap} {fs ch : List Addr} (a : Moved h h' fs ch) {ch' : List Addr} (k : ∀ b ∈ ch, b ∈ ch' ∨ h.get? b = none) : Moved h h' fs ch' :=
  have z : ∀ b o, h.get? b = some o → b ∉ ch' → b ∉ ch := fun b o e n m => (k b m).elim n fun q => by rw [e] at q; cases q
  ⟨fun b o e n m => a.keep b o e (z b o e n) m, fun b o e n m => a.slot b o e (z b o e n) m⟩
theorem dict_map (o : Obj) (g) : (o.mapFields g).dict = o.dict := by
  cases o with
  | mk c d dt sl => cases dt <;> rfl
section
variable {M : Model} {A : Around} {E : Value → Shared → Prop} {s : Shared} {env : Env} {outer : List Env} {base : Heap} {L ea T : Addr} {cls fl : Value} {dx : Option Addr} {Q : Unit → Shared → Prop}
theorem entry_on {head : Value} {had : Bool} {oe : Obj} {vs : Array Value} {a0 : Value} (hfr : A.frames = some (env :: outer)) (hl : s.heap.FunFrames base (env :: outer)) (hf : env.frame = some L)
    (e1 : s.heap.get? ea = some oe) (e2 : oe.cls = cls) (e3 : oe.dict = dx) (e4 : oe.data = .fields vs) (e5 : vs[0]? = some a0) (e6 : 1 < vs.size)
    (h : ∀ h' T', FlyAt h' ea T' cls dx (rawInt L) → s.heap.get? T' = none → Moved s.heap h' (frs (env :: outer)) [ea] → Q () { s with heap := h' }) :
    wpAny M A (do let a ← frameOf env; let pl ← entryPlaceOf L had; let b ← EntryCells.newEntry head a .none (rawInt L) .none pl; setField (.ref ea) 1 b) Q E s := by
  have nfr : ea ∉ frs (env :: outer) := fun m => by
    obtain ⟨_, o', q1, q2⟩ := hl.mem m
    rw [e1] at q1
    cases q1
    exact q2 vs e4
  refine wpAny_bind (wpAny_frameOf_fun hfr hl hf fun g1 so => wpAny_bind (wpAny_entryPlaceOf fun pl isp => ?_))
  unfold EntryCells.newEntry newFields
  refine wpAny_bind (wpAny_newObj_type ?_ (isp.sizeOk5 _ _ _ _ _))
  have at1 : g1.get? ea = some oe := (so.2.1 ea nfr).trans e1
  have neT : g1.objs.size ≠ ea := Nat.ne_of_gt (Heap.lt_size at1)
  have len5 : ∀ (l : List Value), (([head, .ref L, .none, rawInt L, .none] ++ l).toArray)[3]? = some (rawInt L) := fun l => by simp
  generalize ho : ({ cls := .type "traceback", dict := none, data := .fields ([head, .ref L, .none, rawInt L, .none] ++ (if pl.isEmpty then List.replicate 6 Value.none else pl)).toArray } : Obj) = ot
  have hod : ot.data = .fields ([head, .ref L, .none, rawInt L, .none] ++ (if pl.isEmpty then List.replicate 6 Value.none else pl)).toArray := by rw [← ho]
  have hnf : ot.isFreed = false := Obj.isFreed_of_fields hod
  have at2 : (g1.push ot).get? ea = some oe := Heap.get?_push_of_some _ at1
  refine wpAny_setField at2 e4 e6 (h _ g1.objs.size ?_ ?_ ?_)
  · have fd := Obj.data_mapFields e4 (·.setIfInBounds 1 (Value.ref g1.objs.size))
    refine ⟨_, _, ot, _, a0, Heap.get?_update_self _ at2 (Obj.isFreed_of_fields fd), by rw [Obj.cls_mapFields]; exact e2, by rw [dict_map]; exact e3, fd, by rw [Array.getElem?_setIfInBounds_ne (by decide)]; exact e5, by simp [e6], neT, ?_, hod, len5 _⟩
    rw [Heap.get?_update_other _ _ (Ne.symm neT)]
    exact Heap.get?_push_size g1 hnf
  · exact Heap.get?_none_of_le (by rw [so.1]; exact Nat.le_refl _)
  · refine ⟨fun b o q n1 n2 => ?_, fun b o q n1 n2 => ?_⟩
    · rw [Heap.get?_update_other _ _ (fun z => n1 (by simp [z]))]
      exact Heap.get?_push_of_some _ ((so.2.1 b n2).trans q)
    · obtain ⟨sl, q2⟩ := so.2.2 b o q
      refine ⟨sl, ?_⟩
      rw [Heap.get?_update_other _ _ (fun z => n1 (by simp [z]))]
      exact Heap.get?_push_of_some _ q2
theorem note_new (hfr : A.frames = some (env :: outer)) (hl : s.heap.FunFrames base (env :: outer)) (hf : env.frame = some L) (m : Made s.heap ea cls dx)
    (h : ∀ h' T', FlyAt h' ea T' cls dx (rawInt L) → s.heap.get? T' = none → Moved s.heap h' (frs (env :: outer)) [ea] → Q () { s with heap := h' }) : wpAny M A (noteFrame (.ref ea) env) Q E s := by
  obtain ⟨oe, vs, a0, e1, e2, e3, e4, e5, e6⟩ := m
  unfold noteFrame
  simp only [hf]
  refine wpAny_bind (wpAny_field e1 e4 e6 ?_)
  rw [if_neg (by decide)]
  exact entry_on hfr hl hf e1 e2 e3 e4 e5 (Array.getElem?_eq_some_iff.mp e6).1 h
theorem note_on (hfr : A.frames = some (env :: outer)) (hl : s.heap.FunFrames base (env :: outer)) (hf : env.frame = some L) (m : Fly s.heap ea T cls dx)
    (h : ∀ h' T', FlyAt h' ea T' cls dx (rawInt L) → s.heap.get? T' = none → Moved s.heap h' (frs (env :: outer)) [T, ea] → Q () { s with heap := h' }) : wpAny M A (noteFrame (.ref ea) env) Q E s := by
  obtain ⟨oe, vs, oT, ts, a0, e1, e2, e3, e4, e5, e6, e7, e8, e9, e10⟩ := m
  unfold noteFrame
  simp only [hf]
  refine wpAny_bind (wpAny_field e1 e4 e6 ?_)
  rw [if_pos (by simp)]
  refine wpAny_bind (wpAny_field e8 e9 e10 ?_)
  rw [if_neg (by simp [rawInt])]
  refine wpAny_bind (wpAny_setField e8 e9 (Array.getElem?_eq_some_iff.mp e10).1 ?_)
  have oth : ∀ b, b ≠ T → (s.heap.update T (Obj.mapFields (·.setIfInBounds 3 Value.none))).get? b = s.heap.get? b := fun b n => Heap.get?_update_other _ _ (Ne.symm n)
  have rec' : ∀ b o, s.heap.get? b = some o → (∀ vs, o.data ≠ .fields vs) → b ≠ T := fun b o q nf z => by
    rw [z, e8] at q
    cases q
    exact nf ts e9
  have mv := Moved.one (fs := frs (env :: outer)) oth
  refine entry_on (s := { s with heap := _ }) hfr (hl.of_keeps fun b o q nf => ⟨o, (oth b (rec' b o q nf)).trans q, rfl⟩) hf ((oth ea (Ne.symm e7)).trans e1) e2 e3 e4 e5 (Array.getElem?_eq_some_iff.mp e6).1 fun h' T' f1 f2 f3 => h h' T' f1 ?_ (mv.trans f3)
  cases q : s.heap.get? T' with
  | none => rfl
  | some o =>
    by_cases z : T' = T
    · rw [z, Heap.get?_update_self _ e8 (Obj.isFreed_of_fields (Obj.data_mapFields e9 _))] at f2; cases f2
    · rw [oth T' z, q] at f2; cases f2
theorem flight_off (m : FlyAt s.heap ea T cls dx fl) (h : ∀ h', Fly h' ea T cls dx → (∀ b, b ≠ T → h'.get? b = s.heap.get? b) → Q () { s with heap := h' }) : wpAny M A (setFlight (.ref ea) none) Q E s := by
  obtain ⟨oe, vs, oT, ts, a0, e1, e2, e3, e4, e5, e6, e7, e8, e9, e10⟩ := m
  have sz : 3 < ts.size := (Array.getElem?_eq_some_iff.mp e10).1
  unfold setFlight
  refine wpAny_bind (wpAny_field e1 e4 e6 ?_)
  rw [if_pos (by simp)]
  have oth : ∀ b, b ≠ T → (s.heap.update T (Obj.mapFields (·.setIfInBounds 3 Value.none))).get? b = s.heap.get? b := fun b n => Heap.get?_update_other _ _ (Ne.symm n)
  refine wpAny_setField e8 e9 sz (h _ ⟨oe, vs, _, _, a0, (oth ea (Ne.symm e7)).trans e1, e2, e3, e4, e5, e6, e7, Heap.get?_update_self _ e8 (Obj.isFreed_of_fields (Obj.data_mapFields e9 _)), Obj.data_mapFields e9 _, by simp [sz]⟩ oth)
theorem leave_first (hfr : A.frames = some (env :: outer)) (hl : s.heap.FunFrames base (env :: outer)) (hf : env.frame = some L) (m : Made s.heap ea cls dx)
    (h : ∀ h' T', Fly h' ea T' cls dx → s.heap.get? T' = none → Moved s.heap h' (frs (env :: outer)) [ea] → Q () { s with heap := h' }) : wpAny M A (leaving env (.ref ea)) Q E s := by
  unfold leaving
  refine wpAny_bind (note_new hfr hl hf m fun h1 T1 f1 f2 f3 => ?_)
  refine flight_off (s := { s with heap := h1 }) f1 fun h2 f4 f5 => h h2 T1 f4 f2 ?_
  exact (f3.trans (Moved.one f5)).less fun b hb => (List.mem_append.mp hb).imp id fun z => by rw [List.mem_singleton] at z; rw [z]; exact f2
theorem look_on (hfr : A.frames = some (env :: outer)) (hl : s.heap.FunFrames base (env :: outer)) (hf : env.frame = some L) (m : Fly s.heap ea T cls dx)
    (h : ∀ h' T', Fly h' ea T' cls dx → s.heap.get? T' = none → Moved s.heap h' (frs (env :: outer)) [ea, T] → Q () { s with heap := h' }) :
    wpAny M A (noteFrame (.ref ea) env) (fun _ s2 => wpAny M A (setFlight (.ref ea) none) Q E s2) E s := by
  refine note_on hfr hl hf m fun h1 T1 f1 f2 f3 => ?_
  refine flight_off (s := { s with heap := h1 }) f1 fun h2 f4 f5 => h h2 T1 f4 f2 ?_
  refine (f3.trans (Moved.one f5)).less fun b hb => ?_
  rcases List.mem_append.mp hb with z | z
  · exact .inl (by simp at z ⊢; exact z.symm)
  · rw [List.mem_singleton] at z; rw [z]; exact .inr f2
end
theorem ObjOk.there {P : Program} {w : World} {H : Hp} {h : Heap} {a : Addr} {o : HO} (x : ObjOk P w H h a o) : ∃ u, h.get? a = some u := by
  cases o with
  | lst xs => obtain ⟨_, _, _, _, e⟩ := x; exact ⟨_, e⟩
  | tup xs => obtain ⟨_, _, _, o, e, _⟩ := x; exact ⟨_, e⟩
  | dK kvs => obtain ⟨_, _, _, _, o, _, _, e, _⟩ := x; exact ⟨_, e⟩
  | dT kvs => obtain ⟨_, _, _, _, o, _, _, e, _⟩ := x; exact ⟨_, e⟩
  | set S n => obtain ⟨o, _, _, _, e, _⟩ := x; exact ⟨_, e⟩
  | ins C dx fs => obtain ⟨_, _, _, e, _⟩ := x; exact ⟨_, e⟩
  | own y => exact x
  | xd fs => obtain ⟨_, ⟨_, _, _, e, _⟩, _⟩ := x; exact ⟨_, e⟩
  | rng lo hi => obtain ⟨_, _, _, e⟩ := x; exact ⟨_, e⟩
  | frz ob u => obtain ⟨e, _⟩ := x; exact ⟨_, e⟩
  | tbl ps => exact ⟨_, x⟩
  | met f y => exact ⟨_, x⟩
  | ext φ => exact x.2.1
theorem HOk.none_of {P : Program} {w : World} {H : Hp} {h : Heap} (k : HOk P w H h) {a : Addr} (e : h.get? a = none) : H a = none := by
  cases q : H a with
  | none => rfl
  | some o => obtain ⟨u, e2⟩ := (k a o q).there; rw [e] at e2; cases e2
section
variable {X : Cx} {pins : List (Addr × Obj)} {σ : St} {H : Hp} {s : Shared} {h' : Heap}
theorem Inv.moved {ch : List Addr} (I : Inv X pins σ H s) (m : Moved s.heap h' (frs X.stack) ch) (hn : ∀ b ∈ ch, H b = none) (h0 : ∀ b ∈ ch, X.s₀.heap.get? b = none) (hL : ∀ b ∈ ch, b ≠ X.env.locals)
    (hc : ∀ b ∈ ch, ∀ x c, X.env.cells.lookup x = some c → c ≠ b) (hp : ∀ b ∈ ch, ∀ p ∈ X.pn ++ pins, p.1 ≠ b) : Inv X pins σ H { s with heap := h' } := by
  have any : ∀ b o, b ∉ ch → s.heap.get? b = some o → ∃ sl, h'.get? b = some { o with slots := sl } := fun b o hb e => by
    by_cases m1 : b ∈ frs X.stack
    · exact m.slot b o e hb m1
    · exact ⟨o.slots, m.keep b o e hb m1⟩
  have neC : ∀ b o, X.s₀.heap.get? b = some o → b ∉ ch := fun b o e hb => by rw [h0 b hb] at e; cases e
  have neL : ∀ b o, X.s₀.heap.get? b = some o → b ≠ X.env.locals := fun b o e => Nat.ne_of_lt (Nat.lt_of_lt_of_le (Heap.lt_size e) I.ok.above)
  have nst : ∀ b, b ≠ X.env.locals → b ∉ X.fs → b ∉ frs X.stack := fun b h1 h2 h3 => (List.mem_cons.mp (I.stkSub b h3)).elim h1 h2
  have cellK : ∀ x c, X.env.cells.lookup x = some c → ∀ v, s.heap.IsCell c v → h'.IsCell c v := fun x c e v ⟨o, ho, hd⟩ => by
    obtain ⟨sl, q⟩ := any c o (fun z => hc c z x c e rfl) ho
    exact ⟨_, q, hd⟩
  have trk : ∀ b u, H b = some u → b ∉ ch ∧ b ∉ frs X.stack := fun b u e => ⟨fun z => (by rw [hn b z] at e; cases e), fun z => (by rw [I.stkFree b z] at e; cases e)⟩
  refine ⟨I.ok, I.os, I.bare, ⟨fun b o e n hb hx => ?_, fun b o e n hb hx => ?_, I.base.free, fun b o e hx => ?_, I.base.tups, I.base.frzs, I.base.tbls⟩, ?_, fun x c e => ?_, I.free, I.freeC, fun p hq => ?_, fun b u e => ?_, I.len⟩
  · exact m.keep b o (I.base.keep b o e n hb hx) (neC b o e) (nst b (neL b o e) hb)
  · obtain ⟨sl, e1⟩ := I.base.slot b o e n hb hx
    obtain ⟨sl', e2⟩ := any b _ (neC b o e) e1
    exact ⟨sl', e2⟩
  · obtain ⟨o', e1⟩ := I.base.there b o e hx
    obtain ⟨sl, e2⟩ := any b o' (neC b o e) e1
    exact ⟨_, e2⟩
  · obtain ⟨mm, ⟨o, es, ep, ho, r⟩, hl⟩ := I.loc
    obtain ⟨sl, e2⟩ := any _ o (fun z => hL _ z rfl) ho
    refine ⟨mm, ⟨_, es, ep, e2, r⟩, fun i x v e1 e2 e3 => ?_⟩
    obtain ⟨u, rr, l⟩ := hl i x v e1 e2 e3
    refine ⟨u, rr, ?_⟩
    rcases l with l | ⟨k, c, e, z⟩
    · exact .inl l
    · exact .inr ⟨k, c, e, cellK x c e _ z⟩
  · obtain ⟨v, z⟩ := I.cell x c e
    exact ⟨v, cellK x c e v z⟩
  · obtain ⟨e, n, ne, nf, d⟩ := I.pin p hq
    exact ⟨m.keep p.1 p.2 e (fun z => hp _ z p hq rfl) (nst _ ne nf), n, ne, nf, d⟩
  · refine (I.hok b u e).stay (fun c v hcv q => ?_) (fun _ q => q) fun _ _ q => q
    have z : c ∉ ch ∧ c ∉ frs X.stack := by
      rcases hcv with rfl | hcv
      · exact trk c u e
      · exact trk c _ hcv
    exact m.keep c v q z.1 z.2
structure Apart (X : Cx) (pins : List (Addr × Obj)) (H : Hp) (b : Addr) : Prop where
  trk : H b = none
  old : X.s₀.heap.get? b = none
  loc : b ≠ X.env.locals
  cell : ∀ x c, X.env.cells.lookup x = some c → c ≠ b
  pin : ∀ p ∈ X.pn ++ pins, p.1 ≠ b
theorem Inv.moved' {ch : List Addr} (I : Inv X pins σ H s) (m : Moved s.heap h' (frs X.stack) ch) (ha : ∀ b ∈ ch, Apart X pins H b) : Inv X pins σ H { s with heap := h' } :=
  I.moved m (fun b hb => (ha b hb).trk) (fun b hb => (ha b hb).old) (fun b hb => (ha b hb).loc) (fun b hb => (ha b hb).cell) fun b hb => (ha b hb).pin
theorem Inv.apart (I : Inv X pins σ H s) (hx : X.ex = []) {b : Addr} (e : s.heap.get? b = none) : Apart X pins H b := by
  refine ⟨I.hok.none_of e, ?_, ?_, fun x c hc z => ?_, fun p hp z => ?_⟩
  · cases q : X.s₀.heap.get? b with
    | none => rfl
    | some o =>
      obtain ⟨o', e1⟩ := I.base.there b o q (by rw [hx]; simp)
      rw [e] at e1; cases e1
  · rintro rfl
    obtain ⟨m, ⟨o, _, _, ho, _⟩, _⟩ := I.loc
    rw [e] at ho; cases ho
  · obtain ⟨v, o, ho, _⟩ := I.cell x c hc
    rw [z, e] at ho; cases ho
  · have := (I.pin p hp).1
    rw [z, e] at this; cases this
end
def CXE (P : Program) (w : World) : CXT := fun outer H s E e s' => ∃ (ea T : Addr) (cls : Value) (dx : Option Addr) (H' : Hp), e = .ref ea ∧ s'.os = s.os ∧ AllBare s'.gens ∧ Un (frs outer) [] H H' s.heap s'.heap ∧ HOk P w H' s'.heap ∧
  H' ea = none ∧ H' T = none ∧ s.heap.get? ea = none ∧ s.heap.get? T = none ∧ Fly s'.heap ea T cls dx ∧ E cls dx H'
theorem passE0 {P : Program} {w : World} {X : Cx} : Passes (CXE P w) X E0 := fun _ _ _ _ _ _ _ ⟨_, _, _, _, _, _, _, _, _, _, _, _, _, _, _, f⟩ => f.elim
section
variable {P : Program} {w : World} {K : PySem.W.Frag} {mg : Str → Option Value} {base : Heap} {N : List Str} {qual : Str} {scope : Scope} {f : Addr} {cd : Value} {A : Around} {outer : List Env} {s₀ : Shared} {H₀ : Hp} {E : XK}
abbrev cxE (P : Program) (w : World) (K : PySem.W.Frag) (mg : Str → Option Value) (base : Heap) (N : List Str) (qual : Str) (scope : Scope) (f : Addr) (cd : Value) (A : Around) (outer : List Env) (s₀ : Shared) (H₀ : Hp) (E : XK) : Cx :=
  cxOf (CXE P w) P w K mg base N qual scope f cd A outer s₀ H₀ E
theorem throw_ok {pins : List (Addr × Obj)} {σ : St} {H : Hp} {s : Shared} {ea : Addr} {cls : Value} {dx : Option Addr} (I : Inv (cxE P w K mg base N qual scope f cd A outer s₀ H₀ E) pins σ H s) (m : Made s.heap ea cls dx) (a : Apart (cxE P w K mg base N qual scope f cd A outer s₀ H₀ E) pins H ea) (e : E cls dx H) :
    (cxE P w K mg base N qual scope f cd A outer s₀ H₀ E).xe (.ref ea) s := by
  refine leave_first (base := base) (outer := outer) I.ok.frames I.stack rfl m fun h' T' fl nT mv => ?_
  have I' := I.moved' mv fun b hb => by
    rcases List.mem_cons.mp hb with rfl | hb
    · exact a
    · cases hb
  have aT := I.apart rfl nT
  exact ⟨ea, T', cls, dx, H, rfl, I'.os, I'.bare, I'.base, I'.hok, a.trk, aT.trk, a.old, aT.old, fl, e⟩
end
end L2
set_option maxRecDepth 100000
namespace L2
open PySem PySem.Spec PyProof.Rows
abbrev veMro : List Value := [.type "ValueError", .type "Exception", .type "BaseException", .type "object"]
abbrev ExcC (K : PySem.W.Frag) (C : Addr) : Prop := PySem.W.excIn K C veMro "ValueError.__new__" = true
theorem exc_of {K : PySem.W.Frag} {g : Heap} {C : Addr} (kin : K.In g) (isx : ExcC K C) : ∃ nm qn N bs bm hdct sn sub ab col dd k0 k1 k2 k3 k5 mN, g.get? C = some (excClassObj nm qn C N bs bm hdct sn sub ab col dd k0 k1 k2 k3 k5 "ValueError.__new__") ∧
    g.Ns N mN ∧ mN "__init__" = none ∧ OwnTail g veMro bm := by
  unfold ExcC PySem.W.excIn at isx
  split at isx
  next dct cdat slo look =>
    split at isx
    next C2 tail s0 s1 s2 s3 made s5 mro slots =>
      simp only [Bool.and_eq_true, beq_iff_eq, Bool.not_eq_true'] at isx
      obtain ⟨⟨⟨⟨⟨e1, e2⟩, e3⟩, e4⟩, e5⟩, e6⟩ := isx
      cases cdat with
      | mk z1 z2 z3 z4 z5 z6 z7 z8 z9 z10 z11 =>
        dsimp only at mro e3 e5 e6
        subst e1 e2 mro e3
        cases slo with
        | mk lst =>
          dsimp only at slots
          subst slots
          exact ⟨_, _, _, _, _, _, _, _, _, _, _, _, _, _, _, _, _, kin _ _ look, .of_isNs (PySem.W.isNs_of_in kin e5), PySem.W.nsMap_none_of_in kin e5 e6, PySem.W.tail_of_in kin e4⟩
    next => cases isx
  next => cases isx
def tRaise (E : XK) (C : Addr) (t : TA) : TS := fun _ σ H => t σ H fun vs H1 => vs.length ≤ 1000 ∧ E (.ref C) none H1
section
variable {P : Program} {w : World} {K : PySem.W.Frag} {mg : Str → Option Value} {base : Heap} {N : List Str} {qual : Str} {scope : Scope} {f : Addr} {cd : Value} {A : Around} {outer : List Env} {s₀ : Shared} {H₀ : Hp} {E : XK}
theorem ps_raise {x : Str} {e : Expr} {es : List Expr} {t : TA} {C : Addr} {np cpos pos : Pos} (isx : ExcC K C) (hg : Gl (cxE P w K mg base N qual scope f cd A outer s₀ H₀ E) x) (hm : mg x = some (.ref C)) (ha : PA (cxE P w K mg base N qual scope f cd A outer s₀ H₀ E) (e :: es) t)
    (hdb : (x == ("__debug__" : Str)) = false := by decide) (he : starEach (e :: es) (cxE P w K mg base N qual scope f cd A outer s₀ H₀ E).env = (false, eval e (cxE P w K mg base N qual scope f cd A outer s₀ H₀ E).env) :: starEach es (cxE P w K mg base N qual scope f cd A outer s₀ H₀ E).env := by rfl)
    (hpl : (backTo cpos (starEach (e :: es) (cxE P w K mg base N qual scope f cd A outer s₀ H₀ E).env)).any (·.1) = false := by rfl) :
    PS (cxE P w K mg base N qual scope f cd A outer s₀ H₀ E) (.Raise (some (.Call (.Name x np) (e :: es) [] cpos)) none pos) (tRaise E C t) := by
  intro pins s σ H D I h
  obtain ⟨nm, qn, NN, bs, bm, hdct, sn, sub, ab, col, dd, k0, k1, k2, k3, k5, mN, c1, c2, c3, c4⟩ := exc_of I.mod.kin isx
  refine wpAny_Raise_call_subT (C := C) (nm := nm) (q := qn) (N := NN) (bs := bs) (bm := bm) (hdct := hdct) (sn := sn) (sub := sub) (ab := ab) (col := col) (dd := dd) (k0 := k0) (k1 := k1) (k2 := k2) (k3 := k3) (k5 := k5) PySem.F.excBase_ValueError (c4.hasType PySem.F.excBase_ValueError.hasBase) (I.ok.hd rfl) hpl c3 ?_
  refine ld_glob I hg hm ⟨rfl, ?_⟩ hdb
  have q := ha cpos pins s σ H _ I h
  rw [he] at q ⊢
  refine PySem.Calls.evalArgs_plain (thn q fun us s1 ⟨vs, H1, I1, r, q1⟩ => ?_)
  refine ⟨rfl, by rw [← r.length]; exact le_line q1.1, I1.bk _ _ c1, c2.keeps I1.bk, c4.keeps I1.bk, fun h' ea md => ?_⟩
  have I2 : Inv _ pins σ H1 { s1 with heap := h' } := I1.kept (t' := s1.toks) md.keeps
  obtain ⟨tp, e1, _, _⟩ := md.there
  refine throw_ok (cls := .ref C) (dx := none) I2 ⟨_, _, _, e1, rfl, rfl, rfl, rfl, rfl⟩ ?_ q1.2
  have a := I1.apart rfl md.new
  exact ⟨a.trk, a.old, a.loc, a.cell, a.pin⟩
theorem Fun.okE {x : Str} {st : Stmt} {fd : FuncData} {N ps : List Str} {k : Nat} {sp : Sp} (F : Fun K x qual st f fd) (S : FnScope N ps (defScope st)) (len : ∀ vs H Q E, sp vs H Q E → vs.length = ps.length)
    (hbody : ∀ (cdv : Value) (A : Around) (outer : List Env) (s : Shared) (H : Hp) (vs : List V) (Q : VK) (E : XK), Room k (A.deeper (envOfC qual (defScope st) s.heap.objs.size f cdv)) → sp vs H Q E →
      ∃ t, PSs (cxE P w K mg base N qual (defScope st) f cdv A outer s H E) (defBody st) t ∧ t { nx := fun _ H' => Q .non H', rt := Q } (start N vs) H) : FnOk P w K mg base (CXE P w) (k + 1) f fd ps sp := by
  obtain ⟨oc, od, kV, doc, pm, an, cdv, ct, osl, rfl, lk, hcd⟩ := F.ex
  exact fn_of lk hcd S len fun A outer s H vs Q E hr hsp => hbody cdv A outer s H vs Q E hr hsp
theorem Fun.okN {x : Str} {st : Stmt} {fd : FuncData} {N ps : List Str} {k : Nat} {sp : Sp} (F : Fun K x qual st f fd) (S : FnScope N ps (defScope st)) (len : ∀ vs H Q E, sp vs H Q E → vs.length = ps.length)
    (hbody : ∀ (cdv : Value) (A : Around) (outer : List Env) (s : Shared) (H : Hp) (vs : List V) (Q : VK) (E : XK), Room k (A.deeper (envOfC qual (defScope st) s.heap.objs.size f cdv)) → sp vs H Q E →
      ∃ t, PSs (cxE P w K mg base N qual (defScope st) f cdv A outer s H E).nox (defBody st) t ∧ t { nx := fun _ H' => Q .non H', rt := Q } (start N vs) H) : FnOk P w K mg base (CXE P w) (k + 1) f fd ps sp :=
  F.okE S len fun cdv A outer s H vs Q E hr hsp => let ⟨t, h, q⟩ := hbody cdv A outer s H vs Q E hr hsp; ⟨t, h.nox, q⟩
theorem FunD.okE {x : Str} {st : Stmt} {dV : Value} {fd : FuncData} {N ps : List Str} {k : Nat} {sp : Sp} (F : FunD K x qual st dV f fd) (S : FnScope N ps (defScope st)) (len : ∀ vs H Q E, sp vs H Q E → vs.length = ps.length)
    (hbody : ∀ (cdv : Value) (A : Around) (outer : List Env) (s : Shared) (H : Hp) (vs : List V) (Q : VK) (E : XK), Room k (A.deeper (envOfC qual (defScope st) s.heap.objs.size f cdv)) → sp vs H Q E →
      ∃ t, PSs (cxE P w K mg base N qual (defScope st) f cdv A outer s H E) (defBody st) t ∧ t { nx := fun _ H' => Q .non H', rt := Q } (start N vs) H) : FnOk P w K mg base (CXE P w) (k + 1) f fd ps sp := by
  obtain ⟨oc, od, kV, doc, pm, an, cdv, ct, osl, rfl, lk, hcd⟩ := F.ex
  exact fn_of lk hcd S len fun A outer s H vs Q E hr hsp => hbody cdv A outer s H vs Q E hr hsp
theorem FunD.okN {x : Str} {st : Stmt} {dV : Value} {fd : FuncData} {N ps : List Str} {k : Nat} {sp : Sp} (F : FunD K x qual st dV f fd) (S : FnScope N ps (defScope st)) (len : ∀ vs H Q E, sp vs H Q E → vs.length = ps.length)
    (hbody : ∀ (cdv : Value) (A : Around) (outer : List Env) (s : Shared) (H : Hp) (vs : List V) (Q : VK) (E : XK), Room k (A.deeper (envOfC qual (defScope st) s.heap.objs.size f cdv)) → sp vs H Q E →
      ∃ t, PSs (cxE P w K mg base N qual (defScope st) f cdv A outer s H E).nox (defBody st) t ∧ t { nx := fun _ H' => Q .non H', rt := Q } (start N vs) H) : FnOk P w K mg base (CXE P w) (k + 1) f fd ps sp :=
  F.okE S len fun cdv A outer s H vs Q E hr hsp => let ⟨t, h, q⟩ := hbody cdv A outer s H vs Q E hr hsp; ⟨t, h.nox, q⟩
end
def XP (X : Cx) (pins : List (Addr × Obj)) (σ : St) (E : XK) (e : Value) (s' : Shared) : Prop := ∃ ea T cls dx H', e = .ref ea ∧ Inv X pins σ H' s' ∧ Apart X pins H' ea ∧ Apart X pins H' T ∧ Fly s'.heap ea T cls dx ∧ E cls dx H'
def PX (X : Cx) (e : Expr) (t : XK → TE) : Prop :=
  ∀ (pins : List (Addr × Obj)) (s : Shared) (σ : St) (H : Hp) (Q : VK) (E : XK), Inv X pins σ H s → t E σ H Q → wpAny (model X.prog X.w) X.A (eval e X.env) (EP X pins σ Q) (XP X pins σ E) s
def PB (X : Cx) (sts : List Stmt) (t : XK → TS) : Prop :=
  ∀ (pins : List (Addr × Obj)) (s : Shared) (σ : St) (H : Hp) (D : Ends) (E : XK), Inv X pins σ H s → t E D σ H → wpAny (model X.prog X.w) X.A (execs sts X.env) (SP X pins D) (XP X pins σ E) s
section
variable {X : Cx} {k : Nat} {f C : Addr} {fd : FuncData} {ps : List Str} {sp : Sp} {dvs : List V} {ds : List Value} {x m : Str} {p pos apos : Pos} {e o : Expr} {es : List Expr} {ta : TE} {t : TA}
theorem xp_of (hx : X.ex = []) {pins : List (Addr × Obj)} {σ : St} {H : Hp} {s s' : Shared} {E : XK} {ev : Value} (I : Inv X pins σ H s) (h : CXE X.prog X.w X.stack H s E ev s') : XP X pins σ E ev s' := by
  obtain ⟨ea, T, cls, dx, H', rfl, h1, h2, h3, h4, h5, h6, h7, h8, h9, h10⟩ := h
  have a1 := I.apart hx h7
  have a2 := I.apart hx h8
  exact ⟨ea, T, cls, dx, H', rfl, I.call' h1 h3 h4 h2 (by intro b hb; cases hb), ⟨h5, a1.old, a1.loc, a1.cell, a1.pin⟩, ⟨h6, a2.old, a2.loc, a2.cell, a2.pin⟩, h9, h10⟩
theorem run_fnX (hx : X.ex = []) {pins : List (Addr × Obj)} {σ : St} {H : Hp} {s : Shared} {Q : VK} {E : XK} {us : List Value} {vs : List V} (F : FnOk X.prog X.w X.K X.mg X.base (CXE X.prog X.w) k f fd ps sp) (hr : Room k X.A) (hb : Binds X.K fd ps ds) (hd : Vals dvs ds)
    (I : Inv X pins σ H s) (r : Vals vs us) (h : sp (vs ++ dvs) H Q E) : wpAny (model X.prog X.w) X.A (call (.ref f) us) (EP X pins σ Q) (XP X pins σ E) s := by
  have r2 : Vals (vs ++ dvs) (us ++ ds) := r.append hd
  have hl : (us ++ ds).length = ps.length := by rw [← r2.length]; exact F.len _ _ _ _ h
  refine wpAny_call (codeAny_mono (F.run X.A X.stack s H ⟨us, []⟩ (us ++ ds) (vs ++ dvs) Q E hr I.env0 (hb s us I.kIn hl) r2 h) fun rr s' hq => ?_)
  cases rr with
  | error ev => exact xp_of hx I hq
  | ok fl =>
    cases fl with
    | ret u => exact I.after hq
    | next => exact False.elim hq
    | brk => exact False.elim hq
    | cont => exact False.elim hq
theorem px_call (hx : X.ex = []) (F : FnOk X.prog X.w X.K X.mg X.base (CXE X.prog X.w) k f fd ps sp) (hr : Room k X.A) (hg : Gl X x) (hm : X.mg x = some (.ref f)) (hk : PySem.W.keepIn X.K (.ref f) = true) (hb : Binds X.K fd ps ds) (hd : Vals dvs ds)
    (ha : ∀ E, PA (X.wish E) (e :: es) t) (hdb : (x == ("__debug__" : Str)) = false := by decide) (he : starEach (e :: es) X.env = (false, eval e X.env) :: starEach es X.env := by rfl) (hpl : (backTo pos (starEach es X.env)).any (·.1) = false := by rfl) :
    PX X (.Call (.Name x p) (e :: es) [] pos) (fun E => tCall sp dvs E t) := by
  intro pins s σ H Q E I h
  refine wpAny_Call_Name_kw (ld_glob I hg hm ?_ hdb)
  refine PySem.W.callWith_K (h₀ := X.base) I.ok.mod.kin hk (thn (ha (XP X pins σ E) pos pins s σ H _ (I.wish _) h) fun us s1 ⟨vs, H1, I1, r, q⟩ => ⟨I1.unwish.kIn, ?_⟩) he hpl
  exact run_fnX hx F hr hb hd I1.unwish r q
theorem pb_expr {te : XK → TE} (h : PX X e te) (hs : swapsWith e none pos.line X.env = pure false := by rfl) : PB X [.Expr e pos] (fun E => tDrop (te E)) := by
  intro pins s σ H D E I hw
  refine wpAny_execs_cons (wpAny_Expr_any (thn (h pins s σ H _ E I hw) fun v s1 ⟨y, H1, I1, r1, q1⟩ => ?_) I.quiet hs)
  exact wpAny_execs_nil ⟨σ, H1, I1, q1⟩
end
abbrev Cx.hand (X : Cx) (ea : Addr) : Cx := { X with A := X.A.mark (some (.ref ea)), calm := false, xe := fun _ _ => False }
theorem Cx.Ok.hand {X : Cx} (ok : X.Ok) (ea : Addr) : (X.hand ea).Ok :=
  ⟨ok.mod, ok.kind, ok.glob, ok.blt, ok.above, ok.inj, ok.has, ok.cab, (fun z => by cases z), ok.frames, ok.stk, ok.exf, ok.bs, ok.bsz, ok.noex, ok.exfs, ok.funs, ok.frf⟩
theorem Cx.Ok.unhand {X : Cx} {ea : Addr} (ok0 : X.Ok) (ok : (X.hand ea).Ok) : X.Ok := ok0
section
variable {X : Cx} {pins : List (Addr × Obj)} {σ : St} {H : Hp} {s : Shared} {ea : Addr}
theorem Inv.hand (I : Inv X pins σ H s) (ea : Addr) : Inv (X.hand ea) pins σ H s := ⟨I.ok.hand ea, I.os, I.bare, I.base, I.loc, I.cell, I.free, I.freeC, I.pin, I.hok, I.len⟩
theorem Inv.unhand (ok : X.Ok) (I : Inv (X.hand ea) pins σ H s) : Inv X pins σ H s := ⟨ok, I.os, I.bare, I.base, I.loc, I.cell, I.free, I.freeC, I.pin, I.hok, I.len⟩
def excAt (ea : Addr) (cls : Value) (dx : Option Addr) : HO := .ext fun h => ∃ oe vs, h.get? ea = some oe ∧ oe.cls = cls ∧ oe.dict = dx ∧ oe.data = .fields vs
theorem Inv.track {cls : Value} {dx : Option Addr} (I : Inv X pins σ H s) (a : Apart X pins H ea) (hx : ∃ oe vs, s.heap.get? ea = some oe ∧ oe.cls = cls ∧ oe.dict = dx ∧ oe.data = .fields vs) : Inv X pins σ (upd H ea (excAt ea cls dx)) s := by
  have ne : ∀ b o, X.s₀.heap.get? b = some o → b ≠ ea := fun b o e z => by rw [z, a.old] at e; cases e
  have nt : ∀ b o, H b = some o → b ≠ ea := fun b o e => ne_of_none e a.trk
  refine ⟨I.ok, I.os, I.bare, ⟨I.base.keep, I.base.slot, fun b o e n hx => ?_, I.base.there, fun b xs e => ?_, fun b o xs e => ?_, fun b ps e => ?_⟩, I.loc, I.cell, ?_, fun x c e => ?_, fun p hp => ?_, fun b u e => ?_, I.len⟩
  · rw [upd_ne (ne b o e)]; exact I.base.free b o e n hx
  · have q := I.base.tups b xs e
    rw [upd_ne (nt b _ q)]; exact q
  · have q := I.base.frzs b o xs e
    rw [upd_ne (nt b _ q)]; exact q
  · obtain ⟨mm, q⟩ := I.base.tbls b ps e
    exact ⟨mm, by rw [upd_ne (nt b _ q)]; exact q⟩
  · rw [upd_ne (Ne.symm a.loc)]; exact I.free
  · rw [upd_ne (a.cell x c e)]; exact I.freeC x c e
  · obtain ⟨q1, q2, q3⟩ := I.pin p hp
    exact ⟨q1, by rw [upd_ne (a.pin p hp)]; exact q2, q3⟩
  · by_cases hb : b = ea
    · subst hb
      rw [upd_same] at e
      cases e
      obtain ⟨oe, vs, q1, q2, q3⟩ := hx
      exact ⟨⟨oe, vs, q1, q2, q3⟩, ⟨oe, q1⟩, fun h1 h2 ⟨o1, v1, z1, z2⟩ k => ⟨o1, v1, k _ z1, z2⟩⟩
    · rw [upd_ne hb] at e
      exact (I.hok b u e).stay (fun _ _ _ q => q) (fun c q => by rw [upd_ne (nt c _ q)]; exact q) fun c xs q => by rw [upd_ne (nt c _ q)]; exact q
theorem name_goes {M : Model} {A : Around} {E : Value → Shared → Prop} {i : Nat} {n : Str} {pos : Pos} {Q : Unit → Shared → Prop} (I : Inv X pins σ H s) (hN : X.N.Nodup) (hi : X.N[i]? = some n) (hl : X.env.scope.names.lookup n = some .local)
    (h : ∀ s', Inv X pins (σ.set i none) H s' → Q () s') : wpAny M A (do bindName X.env n .none; unbindBehindTheSuite X.env n pos) Q E s := by
  obtain ⟨m, hn, hloc⟩ := I.loc
  refine wpAny_nameGoes_keeps hl hn (by rw [I.ok.kind]; rfl) fun h' v hn' hs => h _ ?_
  have keep : ∀ b o, b ≠ X.env.locals → s.heap.get? b = some o → h'.get? b = some o := fun b o ne e => (hs.2 b ne).trans e
  have neL : ∀ b o, X.s₀.heap.get? b = some o → b ≠ X.env.locals := fun b o e => Nat.ne_of_lt (Nat.lt_of_lt_of_le (Heap.lt_size e) I.ok.above)
  have lL : ∃ o, h'.get? X.env.locals = some o := by obtain ⟨o, _, _, ho, _⟩ := hn'; exact ⟨o, ho⟩
  refine ⟨I.ok, I.os, I.bare, ⟨fun b o e n1 hb hx => keep b o (neL b o e) (I.base.keep b o e n1 hb hx), fun b o e n1 hb hx => ?_, I.base.free, fun b o e hx => ?_, I.base.tups, I.base.frzs, I.base.tbls⟩, ⟨_, hn', fun j y v' e1 e2 e3 => ?_⟩, fun x c e => ?_, I.free, I.freeC, fun p hp => ?_, fun b u e => ?_, by rw [List.length_set]; exact I.len⟩
  · obtain ⟨sl, q⟩ := I.base.slot b o e n1 hb hx
    exact ⟨sl, keep b _ (neL b o e) q⟩
  · obtain ⟨o', q⟩ := I.base.there b o e hx
    exact ⟨o', keep b _ (neL b o e) q⟩
  · have hj : j ≠ i := fun z => by
      subst z
      by_cases hlt : j < σ.length
      · rw [List.getElem?_set_self hlt] at e2; cases e2
      · rw [List.getElem?_eq_none (by rw [List.length_set]; omega)] at e2; cases e2
    rw [List.getElem?_set_ne (Ne.symm hj)] at e2
    obtain ⟨u, r, q⟩ := hloc j y v' e1 e2 e3
    refine ⟨u, r, ?_⟩
    rcases q with ⟨k, e⟩ | ⟨k, c, e, z⟩
    · have ny : y ≠ n := fun z => hj (nodup_ix hN e1 (z ▸ hi))
      exact .inl ⟨k, by simp [ny, e]⟩
    · exact .inr ⟨k, c, e, z.sameBut hs (I.cne y c e)⟩
  · obtain ⟨v', z⟩ := I.cell x c e
    exact ⟨v', z.sameBut hs (I.cne x c e)⟩
  · obtain ⟨q1, q2, q3, q4⟩ := I.pin p hp
    exact ⟨keep _ _ q3 q1, q2, q3, q4⟩
  · have nL : ∀ c v, H c = some v → c ≠ X.env.locals := fun c v q => ne_of_none q I.free
    refine (I.hok b u e).stay (fun c v hc q => keep c v ?_ q) (fun _ q => q) fun _ _ q => q
    rcases hc with rfl | hc
    · exact nL c u e
    · exact nL c _ hc
end
def endsTry (i : Nat) (D : Ends) : Ends := { nx := fun σ H => D.nx (σ.set i none) H, rt := D.rt, bk := fun σ H => D.bk (σ.set i none) H, ct := fun σ H => D.ct (σ.set i none) H }
def tTry (K : PySem.W.Frag) (c : Value) (i : Nat) (tb : XK → TS) (ts : TS) : TS := fun D σ H =>
  tb (fun cls dx H' => PySem.W.exmOne K cls c = some true ∧ ∀ ea, H' ea = none → ts (endsTry i D) (σ.set i (some (.ref ea))) (upd H' ea (excAt ea cls dx))) D σ H
theorem ps_try {X : Cx} {body : List Stmt} {tb : XK → TS} {ts : TS} {cn n : Str} {C : Addr} {i : Nat} {b0 : Stmt} {suite : List Stmt} {np hpos pos : Pos} (K : PySem.W.Frag) (hx : X.ex = []) (hst : X.stack = X.env :: X.outer) (hfr : X.env.frame = some X.env.locals) (hb : PB X body tb)
    (hg : Gl X cn) (hm : X.mg cn = some (.ref C)) (hN : X.N.Nodup) (hi : X.N[i]? = some n) (hl : X.env.scope.names.lookup n = some .local) (hs : ∀ ea, PSs (X.hand ea) (b0 :: suite) ts) (hK : X.K = K := by rfl) (hdb : (cn == ("__debug__" : Str)) = false := by decide) :
    PS X (.Try body [.ExceptHandler (some (.Name cn np)) (some n) (b0 :: suite) hpos] [] [] pos) (tTry K (.ref C) i tb ts) := by
  subst hK
  intro pins s σ H D I h
  refine wpAny_Try_except (wpAny_mono (hb pins s σ H D _ I h) (fun fl s1 q => ?_) fun ev s1 z => ?_)
  · cases fl with
    | next =>
      obtain ⟨σ', H', I', q⟩ := q
      exact wpAny_execs_nil ⟨σ', H', I', q⟩
    | ret v => exact q
    | brk => exact q
    | cont => exact q
  obtain ⟨ea, T, cls, dx, H1, rfl, I1, a1, a2, fly, hcl, hsu⟩ := z
  have stk : ∀ {s : Shared} {σ : St} {H : Hp}, Inv X pins σ H s → s.heap.FunFrames X.base (X.env :: X.outer) := fun {s σ H} I => by have := I.stack; rw [hst] at this; exact this
  have two : ∀ {T : Addr}, Apart X pins H1 T → ∀ b ∈ [ea, T], Apart X pins H1 b := fun {T} aT b hb => by
    rcases List.mem_cons.mp hb with rfl | hb
    · exact a1
    · rcases List.mem_cons.mp hb with rfl | hb
      · exact aT
      · cases hb
  refine look_on (base := X.base) (outer := X.outer) (by rw [I1.ok.frames, hst]) (stk I1) hfr fly fun h2 T2 fly2 nT2 mv2 => ?_
  rw [← hst] at mv2
  have I2 := I1.moved' mv2 (two a2)
  have aT2 : Apart X pins H1 T2 := I1.apart hx nT2
  obtain ⟨oe, vs, oT, tvs, a0, e1, e2, e3, e4, _⟩ := id fly2
  have LT : PySem.W.Looks (model X.prog X.w) ({ s1 with heap := h2 } : Shared).heap (typeOf (.ref ea)) cls := by
    subst e2
    exact (PySem.W.Looks.ld e1).andThen .now
  refine wpAny_handleBy_cons (codeAny_handlers_test ?_) (by intro q; cases q)
  refine ld_glob (X := X.hand ea) (I2.hand ea) hg hm ?_ hdb
  refine (PySem.W.exm_one I2.kIn LT hcl).here ?_
  refine codeAny_handlers_suite_as ?_
  refine flight_off (s := { s1 with heap := h2 }) fly2 fun h3 fly3 same => ?_
  have I3 := I2.moved' (Moved.one same) fun b hb => by rw [List.mem_singleton] at hb; rw [hb]; exact aT2
  obtain ⟨oe3, vs3, _, _, _, f1, f2, f3, f4, _⟩ := id fly3
  have I4 := I3.track a1 ⟨oe3, vs3, f1, f2, f3, f4⟩
  refine store_ok (X := X.hand ea) (v := .ref ea) (I4.hand ea) hN hi (.inl hl) rfl (fun s5 I5 => ?_) (.inr hl)
  refine wpAny_mono (hs ea pins s5 _ _ (endsTry i D) I5 (hsu ea a1.trk)) (fun fl s6 q => ?_) fun _ _ z => z.elim
  have okX := I.ok
  cases fl with
  | next =>
    obtain ⟨σ', H', I', q⟩ := q
    exact name_goes (I'.unhand okX) hN hi hl fun s7 I7 => ⟨_, H', I7, q⟩
  | brk =>
    obtain ⟨σ', H', I', q⟩ := q
    exact name_goes (I'.unhand okX) hN hi hl fun s7 I7 => ⟨_, H', I7, q⟩
  | cont =>
    obtain ⟨σ', H', I', q⟩ := q
    exact name_goes (I'.unhand okX) hN hi hl fun s7 I7 => ⟨_, H', I7, q⟩
  | ret u =>
    obtain ⟨v, σ', H', I', r, q⟩ := q
    exact name_goes (I'.unhand okX) hN hi hl fun s7 I7 => ⟨v, _, H', I7, r, q⟩
end L2
set_option maxRecDepth 100000
set_option maxHeartbeats 1000000
namespace L2
open PySem PySem.Spec PyProof.Rows
structure XCls (K : PySem.W.Frag) (C : Addr) : Prop where
  ga : PySem.W.findIn K (.ref C) "__getattribute__" = some (some (.builtin "BaseException.__getattribute__"))
  gt : PySem.W.findIn K (.ref C) "__getattr__" = some none
  ic : (PySem.W.clsIn K C).isSome = true
  kc : PySem.W.findIn K (.ref C) "__class__" = some (some (.builtin "object.__class__"))
  kg : PySem.W.specialIn K (.builtin "object.__class__") "__get__" = some (some (.builtin "getset_descriptor.__get__"))
  kt : PySem.W.takesIn K (.builtin "object.__class__") = some true
  mo : PySem.W.mroIn K C (.type "object") = some true
  mb : PySem.W.mroIn K C (.type "BaseException") = some true
section
variable {prog : Program} {w : World} {A : Around} {E : Value → Shared → Prop} {s : Shared} {K : PySem.W.Frag} {ea C : Addr} {oe : Obj} {od : Option Obj}
theorem xcheck (kin : K.In s.heap) (c : XCls K C) (I : PySem.W.InstAt s.heap ea oe C od) {nameV : Value} {Q : Unit → Shared → Prop} (h : Q () s) : wpAny (model prog w) A (checkBuiltinCall "BaseException.__getattribute__" ⟨[.ref ea, nameV], []⟩) Q E s := by
  obtain ⟨g, g2, g3, g4, g5⟩ := s
  have kd : builtinKind "BaseException.__getattribute__" = some .slot := by decide +kernel
  have sp : splitId "BaseException.__getattribute__" = some ("BaseException", "__getattribute__") := by decide +kernel
  have L0 := I.type (M := model prog w)
  have L1 := PySem.W.looks_mroIn (M := model prog w) kin c.mb
  have aok := F.args_bexc_ga (.ref ea) nameV
  simp only [checkBuiltinCall, kd, sp]
  refine wpAny_bind ?_
  unfold isInstance
  refine wpAny_bind (L0.at (L1.at ?_))
  repeat (first | exact h | wp_step)
theorem xcall_bind (kin : K.In s.heap) (c : XCls K C) (I : PySem.W.InstAt s.heap ea oe C od) {name : Str} {tk : Tok} {g a : Value} (hf : PySem.W.findObj K C od name = some (.bind g a)) {P : Value → Shared → Prop}
    (h : wpAny (model prog w) A.in1 (call g [a, .ref ea, .ref C]) P E s) : wpAny (model prog w) A (call (.builtin "BaseException.__getattribute__") [.ref ea, .str name tk]) P E s := by
  obtain ⟨h1, h2, h3, h4, h5⟩ := s
  have L0 := I.type (M := model prog w)
  have L1 := PySem.W.looks_find (M := model prog w) kin I hf
  refine wpAny_call (codeAny_call_builtin PySem.F.attr_ValueError.ga.plain F.entry_bexc_ga (xcheck kin c I ?_))
  refine wpAny_bind (wpAny_pure (wpAny_bind (wpAny_pure (wpAny_bind (L0.at (wpAny_bind (L1.at ?_)))))))
  show wpAny _ _ (holding [a] (call g [a, .ref ea, .ref C]) >>= ret) _ _ _
  exact wpAny_bind (wpAny_holding (wpAny_mono h (fun v s' z => wpAny_pure z) fun _ _ z => z))
theorem xget (kin : K.In s.heap) (c : XCls K C) (I : PySem.W.InstAt s.heap ea oe C od) {nameV : Value} {fill expr : Bool} {Q : Value → Shared → Prop} {P : Value → Shared → Prop}
    (h : wpAny (model prog w) A (call (.builtin "BaseException.__getattribute__") [.ref ea, nameV]) P (fun _ _ => False) s) (hq : ∀ v s', P v s' → wpAny (model prog w) A (handedOut v) Q E s') : wpAny (model prog w) A (getAttrBy (.ref ea) nameV fill expr) Q E s := by
  obtain ⟨h1, h2, h3, h4, h5⟩ := s
  have L0 := I.type (M := model prog w)
  have L1 := PySem.W.looks_findIn (M := model prog w) kin c.ga
  have L2 := PySem.W.looks_findIn (M := model prog w) kin c.gt
  unfold getAttrBy
  refine wpAny_holding (wpAny_bind (L0.at (wpAny_bind (L1.at ?_))))
  dsimp only
  have ne : (Value.builtin "BaseException.__getattribute__" == Value.builtin "object.__getattribute__") = false := by decide +kernel
  rw [ne, Bool.and_false, if_neg Bool.false_ne_true]
  unfold getAttrByItsOwn hookBefore
  refine wpAny_bind ?_
  rw [if_pos (show onTheHeap (.ref C) = true from rfl)]
  refine L2.at (wpAny_bind (wpAny_attempt (wpAny_holding ?_)))
  unfold callGetattribute
  rw [if_neg (by cases expr <;> decide)]
  unfold boundAndCalled
  rw [PySem.F.attr_ValueError.ga.bind (.ref ea)]
  refine wpAny_bind (wpAny_pure ?_)
  exact wpAny_mono h (fun v s' z => hq v s' z) fun _ _ z => z.elim
theorem xclass (kin : K.In s.heap) (c : XCls K C) (I : PySem.W.InstAt s.heap ea oe C od) {Q : Option Value → Shared → Prop} (h : Q (some (.ref C)) { s with toks := s.toks + 1 }) : wpAny (model prog w) A (getAttr? (.ref ea) "__class__") Q E s := by
  obtain ⟨cd, hcd⟩ := Option.isSome_iff_exists.mp c.ic
  have hf : PySem.W.findObj K C od "__class__" = some (.bind (.builtin "getset_descriptor.__get__") (.builtin "object.__class__")) := by
    unfold PySem.W.findObj
    rw [hcd, Option.bind_some, c.kc, Option.bind_some]
    simp [c.kg, c.kt]
  unfold getAttr? getAttrBy?
  refine wpAny_bind (wpAny_mkText (wpAny_bind (wpAny_attempt ?_)))
  refine xget (s := { s with toks := s.toks + 1 }) (P := fun v s' => v = .ref C ∧ s' = { s with toks := s.toks + 1 }) kin c I ?_ ?_
  · refine xcall_bind (s := { s with toks := s.toks + 1 }) kin c I hf (wpAny_call ?_)
    exact PySem.W.class_get (s := { s with toks := s.toks + 1 }) (ox := oe) (od := od) kin I c.mo ⟨rfl, rfl⟩
  · rintro v s' ⟨rfl, rfl⟩
    exact PySem.W.handed_on rfl (wpAny_pure h)
theorem kitx_exc (c : XCls K C) : PySem.W.KitX K (.ref ea) (.ref C) (fun h => PySem.W.InstAt h ea oe C od) where
  ty := fun _ _ _ I => I.type
  it := fun M g kin _ => by
    obtain ⟨cd, hcd⟩ := Option.isSome_iff_exists.mp c.ic
    unfold PySem.W.clsIn at hcd
    split at hcd
    next look =>
      intro A1 Q1 E1 s1 k1 q1
      unfold isType loadHead
      exact wpAny_bind (wpAny_loadPart (k1 _ _ (kin _ _ look)) (wpAny_pure q1))
    next => cases hcd
  ne := fun g tp dd its n sl kin htp => by
    obtain ⟨cd, hcd⟩ := Option.isSome_iff_exists.mp c.ic
    refine Bool.eq_false_iff.mpr fun z => ?_
    obtain rfl : C = tp := Value.ref.inj (beq_iff_eq.mp z)
    unfold PySem.W.clsIn at hcd
    split at hcd
    next look =>
      have z2 := (kin _ _ look).symm.trans htp
      cases z2
    next => cases hcd
  ca := fun kin I q => xclass kin c I q
end
theorem ic_of {K : PySem.W.Frag} {C : Addr} {v : Value} {b : Bool} (h : PySem.W.mroIn K C v = some b) : (PySem.W.clsIn K C).isSome = true := by
  unfold PySem.W.mroIn at h
  cases e : PySem.W.clsIn K C with
  | none => rw [e] at h; cases h
  | some c => rfl
section
variable {X : Cx}
theorem call_isx (K : PySem.W.Frag) (hK : X.K = K := by rfl) : CallR X (.builtin "isinstance") (fun xs H Q => ∃ (ea C : Addr) (c : V) (u : Value) (b : Bool), xs = [.ref ea, c] ∧ H ea = some (excAt ea (.ref C) none) ∧ XCls K C ∧ RelV c u ∧ (∀ u', RelV c u' → u' = u) ∧ PySem.W.kitOne K (.ref C) u = some b ∧ Q (.bl b) H) := by
  subst hK
  intro pins s σ H xs us Q I r h
  obtain ⟨ea, C, c, u, b, rfl, hx, hc, hu, hu2, hk, q⟩ := h
  obtain ⟨u1, u2, rfl, r1, r2⟩ := vals2 r
  cases r1
  cases hu2 _ r2
  obtain ⟨⟨oe, vs, e1, e2, e3, e4⟩, _, _⟩ := I.hok _ _ hx
  refine PySem.W.kia_one (kitx_exc (oe := oe) (od := none) hc) I.kIn ⟨e1, e2, ?_, ?_⟩ hk (fun z => nomatch z) fun tk => ⟨.bl b, H, I.tok tk, rfl, q⟩
  · cases oe with
    | mk a1 a2 a3 a4 => dsimp only at e4; subst e4; rfl
  · rw [e3]; trivial
end
end L2
set_option maxRecDepth 100000
set_option maxHeartbeats 1000000
namespace L2
open PySem PySem.Spec PyProof.Rows
def Its (x : Str) : It := ⟨fun i _ => i < x.cps.size, fun i H v H' => H' = H ∧ ∃ c, x.cps[i]? = some c ∧ v = .str ⟨#[c]⟩, fun i _ => x.cps.size ≤ i⟩
theorem turn_ascii {P : Program} {w : World} {K : PySem.W.Frag} {tg : Expr} (x : Str) (t : Tok) (it : Addr) : Turn P w K tg (Its x) [it] it (fun i h => h.IsStrIter it "str_ascii_iterator" x t i) where
  mem := by simp
  obj := fun i h st b hb => by
    obtain rfl : b = it := by simpa using hb
    obtain ⟨o, e, c, d⟩ := st
    exact ⟨o, e, fun v z => by rw [d] at z; cases z⟩
  keep := fun i h h' st k => by
    obtain ⟨o, e, c, d⟩ := st
    exact ⟨o, k it (by simp) o e, c, d⟩
  item := by
    intro X hP hw hK hc i pins s σ H E I hf st hg
    subst hP hw hK
    have hg : i < x.cps.size := hg
    obtain ⟨f0, f1, f2, f3, f4, f5⟩ := hf it (by simp)
    refine wpAny_pyNext_ascii_item st (c := x.cps[i]) (by simp [hg]) fun h' st' sb => ?_
    have I1 : Inv X pins σ H { s with heap := h', toks := s.toks + 1 } := I.turned (t' := s.toks + 1) (fun b o hb e => (sb.2 b hb).trans e) f0 f1 f3 f4 f5
    obtain ⟨o, e1, c, d⟩ := id st'
    exact ⟨_, rfl, go_of (s := { s with heap := h', toks := s.toks + 1 }) e1 c d (by decide) ⟨.str ⟨#[x.cps[i]]⟩, H, I1, ⟨_, rfl⟩, ⟨rfl, x.cps[i], by simp [hg], rfl⟩, st', fun b hb => (hf b hb).1⟩⟩
  done := by
    intro X hP hw hK hc i pins s σ H E I hf st hg
    subst hP hw hK
    have hg : x.cps.size ≤ i := hg
    obtain ⟨f0, f1, f2, f3, f4, f5⟩ := hf it (by simp)
    exact wpAny_pyNext_ascii_end (I.ok.hd hc) st (by simp [hg]) fun h' eb => ⟨rfl, I.turned (t' := s.toks) (fun b o hb e => eb b o hb e) f0 f1 f3 f4 f5⟩
  self := fun _ _ _ _ _ st h => wpAny_pyIter_striter_ascii st h
theorem turn_wide {P : Program} {w : World} {K : PySem.W.Frag} {tg : Expr} (x : Str) (t : Tok) (it : Addr) : Turn P w K tg (Its x) [it] it (fun i h => h.IsStrIter it "str_iterator" x t i) where
  mem := by simp
  obj := fun i h st b hb => by
    obtain rfl : b = it := by simpa using hb
    obtain ⟨o, e, c, d⟩ := st
    exact ⟨o, e, fun v z => by rw [d] at z; cases z⟩
  keep := fun i h h' st k => by
    obtain ⟨o, e, c, d⟩ := st
    exact ⟨o, k it (by simp) o e, c, d⟩
  item := by
    intro X hP hw hK hc i pins s σ H E I hf st hg
    subst hP hw hK
    have hg : i < x.cps.size := hg
    obtain ⟨f0, f1, f2, f3, f4, f5⟩ := hf it (by simp)
    refine wpAny_pyNext_wide_item st (c := x.cps[i]) (by simp [hg]) fun h' st' sb => ?_
    have I1 : Inv X pins σ H { s with heap := h', toks := s.toks + 1 } := I.turned (t' := s.toks + 1) (fun b o hb e => (sb.2 b hb).trans e) f0 f1 f3 f4 f5
    obtain ⟨o, e1, c, d⟩ := id st'
    exact ⟨_, rfl, go_of (s := { s with heap := h', toks := s.toks + 1 }) e1 c d (by decide) ⟨.str ⟨#[x.cps[i]]⟩, H, I1, ⟨_, rfl⟩, ⟨rfl, x.cps[i], by simp [hg], rfl⟩, st', fun b hb => (hf b hb).1⟩⟩
  done := by
    intro X hP hw hK hc i pins s σ H E I hf st hg
    subst hP hw hK
    have hg : x.cps.size ≤ i := hg
    obtain ⟨f0, f1, f2, f3, f4, f5⟩ := hf it (by simp)
    exact wpAny_pyNext_wide_end (I.ok.hd hc) st (by simp [hg]) fun h' eb => ⟨rfl, I.turned (t' := s.toks) (fun b o hb e => eb b o hb e) f0 f1 f3 f4 f5⟩
  self := fun _ _ _ _ _ st h => wpAny_pyIter_striter_wide st h
def iStr (tl : TE) : TI := fun σ H R => tl σ H fun v H1 => ∃ x, v = .str x ∧ R (Its x) H1
theorem pi_str {X : Cx} {tg l : Expr} {tl : TE} (hl : PE X l tl) : PI X tg l (iStr tl) := by
  intro pins s σ H R I h
  refine thn (hl pins s σ H _ I h) fun v s1 ⟨y, H1, I1, r1, q1⟩ => ?_
  obtain ⟨x, rfl, q⟩ := q1
  obtain ⟨t, rfl⟩ := r1
  have fp : ∀ b ∈ [s1.heap.objs.size], FpOk X pins H1 b := fun b hb => by
    obtain rfl : b = s1.heap.objs.size := by simpa using hb
    exact I1.fpOk (Nat.le_refl _) (I1.hok.fresh (Nat.le_refl _))
  cases ha : x.cps.all (· < 128)
  · exact wpAny_pyIter_wide ha ⟨s1.heap.objs.size, [s1.heap.objs.size], _, _, H1, rfl, I1.kept (t' := s1.toks) fun b o e => Heap.get?_push_of_some _ e, turn_wide x t _, ⟨_, Heap.get?_push_size _ rfl, rfl, rfl⟩, fp, q⟩
  · exact wpAny_pyIter_ascii ha ⟨s1.heap.objs.size, [s1.heap.objs.size], _, _, H1, rfl, I1.kept (t' := s1.toks) fun b o e => Heap.get?_push_of_some _ e, turn_ascii x t _, ⟨_, Heap.get?_push_size _ rfl, rfl, rfl⟩, fp, q⟩
theorem for_str {x : Str} {g : TG} {tb : TS} {D : Ends} {σ : St} {H : Hp} (Pv : Nat → St → Hp → Prop) (h0 : Pv 0 σ H)
    (hs : ∀ i c σ H, x.cps[i]? = some c → Pv i σ H → g (.str ⟨#[c]⟩) σ H fun σ2 H2 => tb { D with nx := Pv (i + 1), ct := Pv (i + 1), bk := D.nx } σ2 H2) (hd : ∀ σ H, Pv x.cps.size σ H → D.nx σ H) :
    ∃ W : Nat → Nat → St → Hp → Prop, (∃ m, W 0 m σ H) ∧ ∀ i m σ H, W i m σ H →
      ((Its x).stop i H ∧ D.nx σ H) ∨ ((Its x).go i H ∧ ∃ N : St → Hp → Prop, (∀ σ' H', N σ' H' → ∃ m', m' < m ∧ W (i + 1) m' σ' H') ∧ ∀ v H', (Its x).yld i H v H' → g v σ H' fun σ2 H2 => tb { D with nx := N, ct := N, bk := D.nx } σ2 H2) := by
  refine ⟨fun i m σ H => m = x.cps.size - i ∧ i ≤ x.cps.size ∧ Pv i σ H, ⟨x.cps.size, by simp, Nat.zero_le _, h0⟩, ?_⟩
  rintro i m σ H ⟨rfl, hi, p⟩
  by_cases hlt : i < x.cps.size
  · refine .inr ⟨hlt, Pv (i + 1), fun σ' H' p' => ⟨x.cps.size - (i + 1), by omega, rfl, hlt, p'⟩, fun v H' y => ?_⟩
    obtain ⟨e, c, e2, e3⟩ := y
    subst e e3
    exact hs i c σ _ e2 p
  · have e : i = x.cps.size := by omega
    subst e
    exact .inl ⟨Nat.le_refl _, hd σ H p⟩
section
variable {X : Cx}
theorem mt_zfill : MtR X "str.zfill" (fun x xs H Q => ∃ z i, x = .str z ∧ xs = [.int i] ∧ PadOk i = true ∧ Q (.str (Txt.zfill z i)) H) := by
  intro pins s σ H x xs v us Q I rx r h
  obtain ⟨z, i, rfl, rfl, hp, q⟩ := h
  obtain ⟨t, rfl⟩ := rx
  obtain ⟨u, rfl, t', rfl⟩ := vals1 r
  exact SC.zfill hp fun t2 k => ⟨.str _, H, I.tok k, ⟨_, rfl⟩, q⟩
theorem mt_rstripC : MtR X "str.rstrip" (fun x xs H Q => ∃ z y, x = .str z ∧ xs = [.str y] ∧ z.length ≤ sizeLine ∧ Q (.str (Txt.rstripChars z y)) H) := by
  intro pins s σ H x xs v us Q I rx r h
  obtain ⟨z, y, rfl, rfl, hp, q⟩ := h
  obtain ⟨t, rfl⟩ := rx
  obtain ⟨u, rfl, t', rfl⟩ := vals1 r
  exact SC.rstripChars (fun t2 k => ⟨.str _, H, I.tok k, ⟨_, rfl⟩, q⟩) hp
theorem mt_find : MtR X "str.find" (fun x xs H Q => ∃ z y, x = .str z ∧ xs = [.str y] ∧ Q (.int (Txt.find z y)) H) := by
  intro pins s σ H x xs v us Q I rx r h
  obtain ⟨z, y, rfl, rfl, q⟩ := h
  obtain ⟨t, rfl⟩ := rx
  obtain ⟨u, rfl, t', rfl⟩ := vals1 r
  exact SC.find ⟨.int _, H, I.tok _, ⟨_, rfl⟩, q⟩
theorem mt_partition : MtR X "str.partition" (fun x xs H Q => ∃ z y, x = .str z ∧ xs = [.str y] ∧ (y.length == 0) = false ∧ z.length ≤ sizeLine ∧ ∀ p, H p = none → Q (.ref p) (upd H p (.tup [.str (Txt.partition z y).1, .str (Txt.partition z y).2.1, .str (Txt.partition z y).2.2]))) := by
  intro pins s σ H x xs v us Q I rx r h
  obtain ⟨z, y, rfl, rfl, hy, hz, q⟩ := h
  obtain ⟨t, rfl⟩ := rx
  obtain ⟨u, rfl, t', rfl⟩ := vals1 r
  refine call_meets F.slot_str_partition (typeIs_str _ _ _) F.entry_str_partition (F.args_str_partition_2 _ _) (meets_str_partition z y t t' hy hz) ?_
  have q' := q
  unfold Txt.partition at q'
  revert q'
  have tupOk : ∀ (H2 : Hp) (a b c : Str) (ta tb tc : Tok), ObjOk X.prog X.w H2 (s.heap.push { cls := .type "tuple", data := .seq [.str a ta, .str b tb, .str c tc].toArray }) s.heap.objs.size (.tup [.str a, .str b, .str c]) := fun H2 a b c ta tb tc =>
    ⟨by show 3 ≤ sizeLine; decide, _, .cons ⟨_, rfl⟩ (.cons ⟨_, rfl⟩ (.cons ⟨_, rfl⟩ .nil)), IsTup.new _ _⟩
  cases Builtin.Str.occurrences z y 0 z.length 1 with
  | nil =>
    intro q'
    exact ⟨.ref s.heap.objs.size, _, I.laid (fun b o e => Heap.get?_push_of_some _ e) (Nat.le_refl _) (tupOk _ _ _ _ _ _ _), rfl, q' _ (I.hok.fresh (Nat.le_refl _))⟩
  | cons i r =>
    intro q'
    exact ⟨.ref s.heap.objs.size, _, I.laid (fun b o e => Heap.get?_push_of_some _ e) (Nat.le_refl _) (tupOk _ _ _ _ _ _ _), rfl, q' _ (I.hok.fresh (Nat.le_refl _))⟩
theorem sl_str : SlR X (fun x lo hi H Q => ∃ z, x = .str z ∧ z.length ≤ sizeLine ∧ Q (.str (Txt.slice z lo hi)) H) := by
  intro pins s σ H x v vl vu lo hi sl Q I rx hs pl pu h
  obtain ⟨z, rfl, hz, q⟩ := h
  obtain ⟨t, rfl⟩ := rx
  refine ⟨"str", _, F.slot_str_getitem.lookup, typeIs_str _ _ _, ?_⟩
  have fin : ∀ lo hi, Q (.str (Txt.slice z lo hi)) H → (Txt.slice z lo hi).length ≤ sizeLine ∧ ∀ t' k, EP X pins σ Q (.str (Txt.slice z lo hi) t') { s with toks := k } := fun lo hi q => ⟨Nat.le_trans (Txt.slice_le z _ _) hz, fun t' k => ⟨.str _, H, I.tok k, ⟨_, rfl⟩, q⟩⟩
  obtain ⟨os, e1, e2, e3⟩ := hs
  cases pl with
  | none =>
    cases pu with
    | none => exact wpAny_getItem_str_slice (l := none) (u := none) (st := none) ⟨os, e1, e2, e3⟩ rfl (post_val_or_str (fin _ _ q))
    | int j u => exact wpAny_getItem_str_slice (l := none) (u := some (j, u)) (st := none) ⟨os, e1, e2, e3⟩ rfl (post_val_or_str (fin _ _ q))
  | int i u =>
    cases pu with
    | none => exact wpAny_getItem_str_slice (l := some (i, u)) (u := none) (st := none) ⟨os, e1, e2, e3⟩ rfl (post_val_or_str (fin _ _ q))
    | int j u2 => exact wpAny_getItem_str_slice (l := some (i, u)) (u := some (j, u2)) (st := none) ⟨os, e1, e2, e3⟩ rfl (post_val_or_str (fin _ _ q))
theorem pe_bm0K {o : Expr} {to : TE} {name : Str} {apos cpos : Pos} {T id : String} {r : V → List V → Hp → VK → Prop} (K : PySem.W.Frag) (pa : PlainAttrs T) (slot : Slot T name id) (hty : typeOf (.builtin id) = pure (.type "method_descriptor")) (hm : MtR X id r) (ho : PE X o to)
    (hbase : attributeBase o name X.env (eval o X.env) = eval o X.env := by rfl) (hline : (apos.endLine == cpos.line) = true := by rfl) (hK : X.K = K := by rfl) : PE X (.Call (.Attribute o name apos) [] [] cpos) (tBM0 K T r to) := by
  subst hK
  exact pe_bm0 pa slot hty hm ho hbase hline
theorem pe_bmK {o e : Expr} {es : List Expr} {to : TE} {t : TA} {name : Str} {apos cpos : Pos} {T id : String} {r : V → List V → Hp → VK → Prop} (K : PySem.W.Frag) (pa : PlainAttrs T) (slot : Slot T name id) (hty : typeOf (.builtin id) = pure (.type "method_descriptor")) (hm : MtR X id r) (ho : PE X o to) (ha : PA X (e :: es) t)
    (hbase : attributeBase o name X.env (eval o X.env) = eval o X.env := by rfl)
    (hfew : ((backTo cpos (starEach (e :: es) X.env)).all (fun x => !x.1) && (backToKw cpos (keywordEach [] X.env)).all (fun x => x.1.isSome)
      && decide ((e :: es).length + ([] : List Keyword).length + (if ([] : List Keyword).isEmpty then 0 else 1) < 30)) = true := by rfl)
    (hline : (apos.endLine == cpos.line) = true := by rfl) (hs : starEach (e :: es) X.env = (false, eval e X.env) :: starEach es X.env := by rfl) (hplain : (backTo cpos (starEach es X.env)).any (·.1) = false := by rfl) (hK : X.K = K := by rfl) :
    PE X (.Call (.Attribute o name apos) (e :: es) [] cpos) (tBM K T r to t) := by
  subst hK
  exact pe_bm pa slot hty hm ho ha hbase hfew hline hs hplain
theorem call_isiT (K : PySem.W.Frag) (hK : X.K = K := by rfl) : CallR X (.builtin "isinstance") (fun xs H Q => ∃ x n t b, xs = [x, .ty n] ∧ TyOf K H x (.type t) ∧ PySem.W.kitOne K (.type t) (.type n) = some b ∧ Q (.bl b) H) := by
  subst hK
  intro pins s σ H xs us Q I r h
  obtain ⟨x, n, t, b, rfl, ht, hb, q⟩ := h
  obtain ⟨u, w', rfl, r1, r2⟩ := vals2 r
  cases r2
  exact isinst_ok I r1 ht hb fun tk => ⟨.bl b, H, I.tok tk, rfl, q⟩
end
theorem boot_ValueError : bootBuiltins "ValueError" = some (.type "ValueError") := by decide +kernel
theorem pe_gint {X : Cx} {x : Str} {i : Int} {pos : Pos} (hg : Gl X x) (hm : ∃ t, X.mg x = some (.int i t)) (hd : (x == ("__debug__" : Str)) = false := by decide) : PE X (.Name x pos) (tC (.int i)) := by
  obtain ⟨t, h⟩ := hm
  exact pe_glob hg h ⟨_, rfl⟩ hd
theorem pe_gstr {X : Cx} {x z : Str} {pos : Pos} (hg : Gl X x) (hm : ∃ t, X.mg x = some (.str z t)) (hd : (x == ("__debug__" : Str)) = false := by decide) : PE X (.Name x pos) (tC (.str z)) := by
  obtain ⟨t, h⟩ := hm
  exact pe_glob hg h ⟨_, rfl⟩ hd
def tDead : TS := fun _ _ _ => False
theorem ps_dead {X : Cx} {st : Stmt} : PS X st tDead := fun _ _ _ _ _ _ h => h.elim
end L2
set_option maxRecDepth 100000
set_option maxHeartbeats 4000000
namespace L2
open PySem PySem.NumText PyProof.Rows
abbrev cs (x : Str) : List Nat := x.cps.toList
theorem cs_inj {a b : Str} (h : cs a = cs b) : a = b := ext_toList h
theorem cs_app (a b : Str) : cs (a ++ b) = cs a ++ cs b := PySem.W.KT.app_list a b
theorem cs_len (a : Str) : (cs a).length = a.length := by simp [cs, Str.length]
def isDig (c : Nat) : Bool := decide (48 ≤ c) && decide (c ≤ 57)
theorem isDig_iff {c : Nat} : isDig c = true ↔ 48 ≤ c ∧ c ≤ 57 := by unfold isDig; simp
theorem dig_all {l : List Nat} : l.all isDig = true ↔ AllDigits l := by
  rw [List.all_eq_true]
  exact ⟨fun h c hc => isDig_iff.mp (h c hc), fun h c hc => isDig_iff.mpr (h c hc)⟩
def figs : Str := Str.ofString "0123456789"
theorem val_snoc (l : List Nat) (c : Nat) (h : isDig c = true) : ((digitsVal (l ++ [c]) : Nat) : Int) = 10 * (digitsVal l : Int) + ((c : Int) - 48) := by
  rw [digitsVal_snoc]
  have := (isDig_iff.mp h).1
  omega
theorem num_cs (n : Nat) : cs (Str.ofString (toString (n : Int))) = (Nat.toDigits 10 n).map Char.toNat := PySem.W.KIN.signs_num n
theorem num_val (n : Nat) : digitsVal (cs (Str.ofString (toString (n : Int)))) = n := by rw [num_cs]; exact PySem.W.KIN.val_back n
theorem num_dig (n : Nat) : AllDigits (cs (Str.ofString (toString (n : Int)))) := by
  intro c hc
  rw [num_cs] at hc
  obtain ⟨ch, h1, rfl⟩ := List.mem_map.mp hc
  exact digit_range (Nat.isDigit_of_mem_toDigits (by decide) (by decide) h1)
theorem num_ne (n : Nat) : cs (Str.ofString (toString (n : Int))) ≠ [] := by
  rw [num_cs]
  intro h
  have := PySem.toDigits_len_ge 10 n
  rw [List.map_eq_nil_iff] at h
  rw [h] at this
  simp at this
theorem num_head (n : Nat) : cs (Str.ofString (toString (n : Int))) = [48] ∨ (cs (Str.ofString (toString (n : Int)))).head? ≠ some 48 := by
  have h1 := toDigits_all _ (num_dig n)
  rw [num_val] at h1
  have h2 := num_cs n
  generalize cs (Str.ofString (toString (n : Int))) = l at h1 h2
  cases l with
  | nil => right; simp
  | cons c r =>
    by_cases e : c = 48
    · subst e
      left
      rw [List.dropWhile_cons, if_pos (by simp)] at h1
      have hl : (Nat.toDigits 10 n).length = r.length + 1 := by have := congrArg List.length h2; simpa using this.symm
      cases hd : r.dropWhile (· == 48) with
      | nil =>
        rw [hd] at h1
        rw [h1] at h2
        exact h2
      | cons c2 r2 =>
        rw [hd] at h1
        have : (Nat.toDigits 10 n).length ≤ r.length := by
          rw [h1, List.length_map, ← hd]
          exact (List.dropWhile_sublist _).length_le
        omega
    · right; simp [e]
theorem part_none {x : Str} {c : Nat} (h : c ∉ cs x) : Txt.partition x ⟨#[c]⟩ = (x, Str.empty, Str.empty) := by
  rcases partition_whole x ⟨#[c]⟩ with ⟨e, _⟩ | ⟨i, _, at1, _⟩
  · exact e
  · exact absurd (List.mem_of_getElem? ((StrLaws.subAt_one x c i).mp at1)) h
theorem part_at {a b : Str} {c : Nat} (h : c ∉ cs a) {x : Str} (hx : cs x = cs a ++ c :: cs b) : Txt.partition x ⟨#[c]⟩ = (a, ⟨#[c]⟩, b) := by
  have hl : x.length = (cs a).length + 1 + (cs b).length := by rw [← cs_len, hx]; simp; omega
  rcases partition_whole x ⟨#[c]⟩ with ⟨_, no⟩ | ⟨i, e, at1, first⟩
  · exact absurd ((StrLaws.subAt_one x c (cs a).length).mpr (by show (cs x)[_]? = _; rw [hx]; simp)) (no _)
  · have e1 := (StrLaws.subAt_one x c i).mp at1
    have e1 : (cs x)[i]? = some c := e1
    have hi : i = (cs a).length := by
      rcases Nat.lt_trichotomy i (cs a).length with lt | eq | gt
      · rw [hx, List.getElem?_append_left lt] at e1
        exact absurd (List.mem_of_getElem? e1) h
      · exact eq
      · exact absurd ((StrLaws.subAt_one x c (cs a).length).mpr (by show (cs x)[_]? = _; rw [hx]; simp)) (first _ gt)
    rw [e]
    subst hi
    have k1 : Builtin.Str.strSub x 0 (cs a).length = a := cs_inj (by
      show (x.cps.extract 0 (cs a).length).toList = cs a
      rw [Array.toList_extract]
      show ((cs x).drop 0).take ((cs a).length - 0) = cs a
      rw [hx]; simp)
    have k2 : Builtin.Str.strSub x ((cs a).length + (⟨#[c]⟩ : Str).length) x.length = b := cs_inj (by
      show (x.cps.extract ((cs a).length + 1) x.length).toList = cs b
      rw [Array.toList_extract]
      show ((cs x).drop ((cs a).length + 1)).take (x.length - ((cs a).length + 1)) = cs b
      rw [hx, hl, show (cs a).length + 1 + (cs b).length - ((cs a).length + 1) = (cs b).length by omega, List.drop_append, List.drop_of_length_le (by omega), show (cs a).length + 1 - (cs a).length = 1 by omega]
      show (cs b).take (cs b).length = cs b
      exact List.take_length)
    rw [k1, k2]
theorem str_one (s : String) (c : Nat) (h : (Str.ofString s).cps = #[c]) : Str.ofString s = ⟨#[c]⟩ := by
  cases e : Str.ofString s with
  | mk a => rw [e] at h; exact congrArg _ h
end L2
set_option maxRecDepth 100000
set_option maxHeartbeats 1000000
namespace L2
open PySem PySem.Spec PyProof.Rows
structure XInit (K : PySem.W.Frag) (C CL f : Addr) : Prop where
  obj : ∃ nm qn N bs hdct sn sub ab col dd k0 k1 k2 k3 k5, K.lookup C = some (excClassObj nm qn C N bs (.ref CL :: veMro) hdct sn sub ab col dd k0 k1 k2 k3 k5 "ValueError.__new__")
  up : ExcC K CL
  top : ∃ nm qn N bs hdct sn sub ab col dd k0 k1 k2 k3 k5, K.lookup CL = some (excClassObj nm qn CL N bs veMro hdct sn sub ab col dd k0 k1 k2 k3 k5 "ValueError.__new__")
  init : PySem.W.findIn K (.ref C) "__init__" = some (some (.ref f))
  fn : PySem.W.typeIn K (.ref f) = some (.type "function")
  kp : PySem.W.keepIn K (.ref C) = true
  sa : PySem.W.findIn K (.ref C) "__setattr__" = some (some (.builtin "object.__setattr__"))
  hd : PySem.W.hasDictIn K C = true
  xc : XCls K C
theorem XInit.here {K : PySem.W.Frag} {C CL f : Addr} (x : XInit K C CL f) {g : Heap} (kin : K.In g) : ∃ nm qn N bs hdct sn sub ab col dd k0 k1 k2 k3 k5, g.get? C = some (excClassObj nm qn C N bs (.ref CL :: veMro) hdct sn sub ab col dd k0 k1 k2 k3 k5 "ValueError.__new__") ∧ OwnTail g veMro (.ref CL :: veMro) := by
  obtain ⟨nm, qn, N, bs, hdct, sn, sub, ab, col, dd, k0, k1, k2, k3, k5, h⟩ := x.obj
  refine ⟨nm, qn, N, bs, hdct, sn, sub, ab, col, dd, k0, k1, k2, k3, k5, kin _ _ h, ?_⟩
  obtain ⟨nm', qn', N', bs', bm', hdct', sn', sub', ab', col', dd', j0, j1, j2, j3, j5, mN, c1, c2, c3, c4⟩ := exc_of kin x.up
  exact .own c1 c2 c3 .base
section
variable {prog : Program} {w : World} {A : Around} {E : Value → Shared → Prop} {s : Shared} {K : PySem.W.Frag} {ea C CL f : Addr} {oe : Obj} {od : Option Obj}
theorem xosa {R : Result → Shared → Prop} {name : Str} {tk : Tok} {v : Value} (kin : K.In s.heap) (x : XInit K C CL f) (I : PySem.W.InstAt s.heap ea oe C od) (hn : PySem.W.findIn K (.ref C) name = some none)
    (h : wpAny (model prog w) A.in1 (Builtin.ObjectAttr.storeInOwnDict (.ref ea) (.ref C) (.str name tk) name v false)
      (fun fin s' => match fin with | .done f => R (.ok f) s' | .again c' => c'.quiet = true ∧ codeAny (model prog w) A c' R s') (fun e s' => R (.error e) s') s) :
    codeAny (model prog w) A (.call (.builtin "object.__setattr__") ⟨[.ref ea, .str name tk, v], []⟩) R s := by
  have SF := PySem.F.store_ValueError
  obtain ⟨nm, qn, N, bs, hdct, sn, sub, ab, col, dd, k0, k1, k2, k3, k5, hlk⟩ := x.obj
  have hm : PySem.W.Looks (model prog w) s.heap (mroOf (.ref C)) (.ref C :: .ref CL :: veMro) := by
    obtain ⟨cd, hc, hmro⟩ : ∃ cd, PySem.W.clsIn K C = some cd ∧ cd.mro = .ref C :: .ref CL :: veMro := ⟨_, by unfold PySem.W.clsIn; rw [hlk], rfl⟩
    rw [← hmro]
    exact (PySem.W.looks_clsIn kin hc).andThen .now
  have isob : PySem.W.Looks (model prog w) s.heap (isInstance (.ref ea) (.type "object")) true := I.type.andThen (PySem.W.looks_mroIn kin x.xc.mo)
  have LN := PySem.W.looks_findIn (M := model prog w) kin hn
  have LT : PySem.W.Looks (model prog w) s.heap (typeOf (.ref ea)) (.ref C) := I.type
  have pas : Builtin.ObjectAttr.refuseIfOverridden (.ref ea) "__setattr__" = (typeOf (.ref ea) >>= fun tp => mroOf tp >>= fun l => refuseLoop (.ref ea) "__setattr__" l) := refuse_eq _ _
  have pas2 : refuseLoop (.ref ea) "__setattr__" (.ref C :: .ref CL :: veMro) = pure () := by
    rw [refuseLoop_ref, refuseLoop_ref]
    exact SF.passes _
  refine codeAny_call_builtin SF.slot.plain SF.entry (@PySem.W.check_slot (model prog w) _ _ s "object.__setattr__" "object" "__setattr__" (.ref ea) [.str name tk, v] [] _ SF.kind SF.split isob (SF.args (.ref ea) (.str name tk) v) ?_)
  rw [PySem.W.osa_eq, pas]
  refine wpAny_bind (wpAny_bind (LT.here (wpAny_bind (hm.here ?_))))
  rw [pas2]
  refine wpAny_pure (wpAny_bind (LT.here (wpAny_bind (LN.here ?_))))
  exact wpAny_bind (wpAny_pure h)
theorem xset {Q : Unit → Shared → Prop} {name : Str} {v : Value} (kin : K.In s.heap) (x : XInit K C CL f) (e1 : s.heap.get? ea = some oe) (e2 : oe.cls = .ref C) (e3 : oe.dict = none) {vs : Array Value} (e4 : oe.data = .fields vs) (hn : PySem.W.findIn K (.ref C) name = some none)
    (h : ∀ h' tk, h'.get? ea = some { oe with dict := some s.heap.objs.size } → h'.Ns1 s.heap.objs.size (fun y => if y = name then some v else none) → (∀ b o, b ≠ ea → s.heap.get? b = some o → h'.get? b = some o) → Q () { s with heap := h', toks := tk }) :
    wpAny (model prog w) A (setAttr (.ref ea) name v) Q E s := by
  have nc : PySem.W.notCls oe = true := by
    cases oe with
    | mk a1 a2 a3 a4 => dsimp only at e4; subst e4; rfl
  have I : PySem.W.InstAt s.heap ea oe C none := ⟨e1, e2, nc, by rw [e3]; trivial⟩
  refine PySem.W.set_plain kin I x.sa (xosa (s := { s with toks := s.toks + 1 }) kin x I hn ?_)
  obtain ⟨cd, hc, hd⟩ := PySem.W.any_some x.hd
  have LC := PySem.W.looks_clsIn (M := model prog w) kin hc
  have at1 : (s.heap.push { cls := .type "dict", data := .dict #[] }).get? ea = some oe := Heap.get?_push_of_some _ e1
  have ne : ea ≠ s.heap.objs.size := Nat.ne_of_lt (Heap.lt_size e1)
  have nf : ({ oe with dict := some s.heap.objs.size } : Obj).isFreed = false := Obj.isFreed_of_fields (o := { oe with dict := some s.heap.objs.size }) e4
  unfold Builtin.ObjectAttr.storeInOwnDict
  refine wpAny_bind (wpAny_pure (wpAny_bind (wpAny_bind (wpAny_loadPart e1 ?_))))
  rw [e2]
  refine wpAny_bind (PySem.W.Looks.here (s := { s with toks := s.toks + 1 }) LC ?_)
  rw [hd, e3]
  rw [if_neg (by decide)]
  show wpAny _ _ (if (!true || !typeHasDict (Value.ref C)) = true then pure none else _) _ _ _
  rw [if_neg (by simp [typeHasDict]), e4]
  show wpAny _ _ (alloc { cls := .type "dict", data := .dict #[] } >>= _) _ _ _
  refine wpAny_bind (wpAny_alloc (wpAny_bind (wpAny_update (s := { s with heap := s.heap.push { cls := .type "dict", data := .dict #[] }, toks := s.toks + 1 }) at1 ?_)))
  refine wpAny_pure ?_
  show wpAny _ _ (Builtin.ObjectAttr.storeInDict s.heap.objs.size (.str name s.toks) name v) _ _ _
  unfold Builtin.ObjectAttr.storeInDict Builtin.ObjectAttr.newKeyGuard
  generalize hg : (s.heap.push { cls := .type "dict", data := .dict #[] }).update ea (fun o => { cls := o.cls, dict := some s.heap.objs.size, data := o.data, slots := o.slots }) = g2
  have g2e : g2.get? ea = some { oe with dict := some s.heap.objs.size } := by rw [← hg]; exact Heap.get?_update_self _ at1 nf
  have g2d : g2.get? s.heap.objs.size = some { cls := .type "dict", data := .dict #[] } := by
    rw [← hg, Heap.get?_update_other _ _ ne]
    exact Heap.get?_push_at rfl rfl
  have g2o : ∀ b o, b ≠ ea → s.heap.get? b = some o → g2.get? b = some o := fun b o n q => by
    rw [← hg, Heap.get?_update_other _ _ (Ne.symm n)]
    exact Heap.get?_push_of_some _ q
  have empty : g2.Ns s.heap.objs.size (fun _ => none) := ⟨_, #[], _, g2d, rfl, fun q hq => absurd hq (by simp), fun _ => rfl⟩
  refine wpAny_bind (wpAny_pure (wpAny_bind (wpAny_nsSet1 (s := { s with heap := g2, toks := s.toks + 1 }) (Heap.Ns1.of_empty empty) fun h3 n3 same3 => ?_)))
  obtain ⟨oD, esD, epD, d1, d2, d3⟩ := n3.count (PySem.Within.cons name v PySem.Within.nil)
  refine wpAny_bind (wpAny_lookBehind d1 (by rw [d2]; exact pastItsLine_dict (Nat.le_trans d3 (by rw [List.length_cons, List.length_nil, sizeLine_eq]; omega))) ?_)
  refine wpAny_pure (h h3 _ ((same3.2 ea ne).trans g2e) ?_ fun b o n q => (same3.2 b (Nat.ne_of_lt (Heap.lt_size q))).trans (g2o b o n q))
  obtain ⟨o', es, ep, q1, q2, q3, q4, q5⟩ := n3
  exact ⟨o', es, ep, q1, q2, q3, q4, q5⟩
theorem call_vinit {Q : Value → Shared → Prop} {rest : List Value} {dx : Option Addr} (kin : K.In s.heap) (x : XInit K C CL f) (md : Made s.heap ea (.ref C) dx) (hr : rest.length ≤ sizeLine)
    (h : ∀ h', Made h' ea (.ref C) dx → (∀ b o, b ≠ ea → s.heap.get? b = some o → h'.get? b = some o) → Q .none { s with heap := h' }) :
    wpAny (model prog w) A (call (.builtin "ValueError.__init__") (.ref ea :: rest)) Q E s := by
  obtain ⟨g1, g2, g3, g4, g5⟩ := s
  have FV := PySem.F.excBase_ValueError
  obtain ⟨nm, qn, N, bs, hdct, sn, sub, ab, col, dd, k0, k1, k2, k3, k5, hC, tl⟩ := x.here kin
  obtain ⟨oe, vs, a0, e1, e2, e3, e4, e5, e6⟩ := md
  refine wpAny_call (codeAny_call_builtin FV.init.plain FV.initEntry (wpAny_check_init_subT FV tl hC e1 e2 ?_))
  have sz : 0 < vs.size := (Array.getElem?_eq_some_iff.mp e5).1
  have at1 : (g1.push { cls := .type "tuple", data := .seq rest.toArray }).get? ea = some oe := Heap.get?_push_of_some _ e1
  delta Builtin.«BaseException.__init__»
  show wpAny _ _ (newTuple rest >>= _) _ _ _
  unfold newTuple
  refine wpAny_bind (wpAny_newObj_type ?_ (by show rest.toArray.size ≤ sizeLine; rw [List.size_toArray]; exact hr))
  unfold Builtin.BaseException.bexcPut
  refine wpAny_bind (wpAny_bind (wpAny_field at1 e4 e5 (wpAny_bind (wpAny_setField at1 e4 sz ?_))))
  have fin : Q .none ⟨(g1.push { cls := .type "tuple", data := .seq rest.toArray }).update ea (Obj.mapFields (·.setIfInBounds 0 (.ref g1.objs.size))), g2, g3, g4, g5⟩ := by
    refine h _ ⟨_, _, .ref g1.objs.size, Heap.get?_update_self _ at1 (Obj.isFreed_of_fields (Obj.data_mapFields e4 _)), by rw [Obj.cls_mapFields]; exact e2, by rw [dict_map]; exact e3, Obj.data_mapFields e4 _, by simp [sz], by rw [Array.getElem?_setIfInBounds_ne (by decide)]; exact e6⟩ fun b o n q => ?_
    rw [Heap.get?_update_other _ _ (Ne.symm n)]
    exact Heap.get?_push_of_some _ q
  cases a0 <;> first | exact wpAny_letGo (wpAny_pure fin) | exact wpAny_pure (wpAny_pure fin)
abbrev rawExc (C t : Addr) : Obj := { cls := .ref C, data := .fields #[.ref t, .none, .none, .none, .bool false, .none] }
theorem make_exc {R : Result → Shared → Prop} {us : List Value} (kin : K.In s.heap) (x : XInit K C CL f) (hr : us.length ≤ sizeLine)
    (h : codeAny (model prog w) (A.under (.builtin "type.__call__" ⟨.ref C :: us, []⟩)) (.call (.ref f) ⟨.ref (s.heap.objs.size + 1) :: us, []⟩) (PySem.W.InitBack (s.heap.objs.size + 1) R)
      { s with heap := (s.heap.push { cls := .type "tuple", data := .seq us.toArray }).push (rawExc C s.heap.objs.size) }) :
    codeAny (model prog w) A (.call (.ref C) ⟨us, []⟩) R s := by
  obtain ⟨g1, g2, g3, g4, g5⟩ := s
  have FV := PySem.F.excBase_ValueError
  obtain ⟨nm, qn, N, bs, hdct, sn, sub, ab, col, dd, k0, k1, k2, k3, k5, hCl, tl⟩ := x.here kin
  have f1 := tc_lookup
  have f2 := tc_bind (.ref C)
  have tyC : (⟨g1, g2, g3, g4, g5⟩ : Shared).TypeIs (.ref C) "type" := ⟨_, hCl, rfl⟩
  have keeps : ∀ b o, g1.get? b = some o → ((g1.push { cls := .type "tuple", data := .seq us.toArray }).push (rawExc C g1.objs.size)).get? b = some o := fun b o q => Heap.get?_push_of_some _ (Heap.get?_push_of_some _ q)
  have hC1 := keeps _ _ hCl
  have kin1 : K.In ((g1.push { cls := .type "tuple", data := .seq us.toArray }).push (rawExc C g1.objs.size)) := kin.keeps keeps
  have got : ((g1.push { cls := .type "tuple", data := .seq us.toArray }).push (rawExc C g1.objs.size)).get? (g1.objs.size + 1) = some (rawExc C g1.objs.size) := by heap_get
  have LI := PySem.W.looks_findIn (M := model prog w) kin1 x.init
  have LB := PySem.W.bind_fn (M := model prog w) kin1 (.ref (g1.objs.size + 1)) x.fn
  have isC : (Value.ref C :: .ref CL :: veMro).contains (.ref C) = true := by simp
  refine codeAny_of_tree ?_
  show wpAny (model prog w) _ (callAny (.ref C) _) _ _ _
  repeat (any_goals (first | assumption | with_reducible refine wpAny_loadPart_at hCl ?_ | wp_step))
  refine ⟨rfl, ?_⟩
  refine codeAny_call_builtin_at (Code.quiet_builtin _ (by decide +kernel)) entry_typeCall (wpAny_check_type_call_sub hCl ?_)
  repeat (first | with_reducible refine wpAny_loadPart_at hCl ?_ | with_reducible refine wpAny_madeBy_exc hCl ?_ | wp_step)
  refine codeAny_call_builtin_code (Code.quiet_builtin _ FV.quiet) (wpAny_check_new_subT FV tl hCl ?_)
  refine codeAny_exc_new_subT FV tl hCl ?_ hr
  show wpAny _ _ _ _ _ _
  have LT : PySem.W.Looks (model prog w) ((g1.push { cls := .type "tuple", data := .seq us.toArray }).push (rawExc C g1.objs.size)) (typeOf (.ref (g1.objs.size + 1))) (.ref C) := (PySem.W.Looks.ld got).andThen .now
  have LS : PySem.W.Looks (model prog w) ((g1.push { cls := .type "tuple", data := .seq us.toArray }).push (rawExc C g1.objs.size)) (isSubtype (.ref C) (.ref C)) true := by
    intro A1 Q1 E1 s1 k1 q1
    obtain ⟨j1, j2, j3, j4, j5⟩ := s1
    exact wpAny_isSubtype_exc (k1 _ _ hC1) (by rw [isC]; exact q1)
  unfold callSpecial? isInstance specialOf
  refine wpAny_bind (wpAny_bind (LT.at (LS.at ?_)))
  rw [if_neg (by decide)]
  refine wpAny_bind (wpAny_holding (wpAny_bind (wpAny_bind (LT.at (LI.at ?_)))))
  refine wpAny_holding (wpAny_bind (LB.at (wpAny_bind (wpAny_call ?_))))
  refine codeAny_mono h fun r s' z => ?_
  cases r with
  | error ev => exact z
  | ok fl =>
    cases fl with
    | ret v =>
      obtain ⟨rfl, z2⟩ := z
      exact wpAny_pure (wpAny_pure z2)
    | next => exact z.elim
    | brk => exact z.elim
    | cont => exact z.elim
theorem raise_inst {env : Env} {t : Sem Value} {pos : Pos} {Q : Flow → Shared → Prop} (hh : A.handled = none)
    (h : wpAny (model prog w) A t (fun v s1 => ∃ e dx, v = .ref e ∧ K.In s1.heap ∧ (∃ C CL f, XInit K C CL f ∧ Made s1.heap e (.ref C) dx) ∧ E (.ref e) s1) E s) : wpAny (model prog w) A (raiseStmt env (some (do let v ← t; standAt pos; pure v)) none) Q E s := by
  unfold raiseStmt
  refine wpAny_bind (wpAny_bind (wpAny_mono h (fun v s1 z => wpAny_bind (wpAny_standAt (wpAny_pure ?_))) fun _ _ z => z))
  obtain ⟨e, dx, rfl, kin, ⟨C, CL, f, x, md⟩, hE⟩ := z
  obtain ⟨nm, qn, N, bs, hdct, sn, sub, ab, col, dd, k0, k1, k2, k3, k5, hCl, tl⟩ := x.here kin
  obtain ⟨oe, vs, a0, e1, e2, e3, e4, e5, e6⟩ := md
  obtain ⟨g1, g2, g3, g4, g5⟩ := s1
  cases oe with
  | mk c1 c2 c3 c4 =>
    dsimp only at e2 e3 e4
    subst e2 e3 e4
    have isB : (Value.ref C :: .ref CL :: veMro).contains (.type "BaseException") = true := by
      rw [List.contains_cons, List.contains_cons]
      rfl
    repeat (first | with_reducible refine wpAny_loadPart_at e1 ?_ | with_reducible refine wpAny_loadPart_at hCl ?_ | (with_reducible refine wpAny_isSubtype_exc hCl ?_; rw [isB]) | wp_step)
    rw [e6]
    refine wpAny_pure ?_
    rw [if_neg (by decide)]
    exact wpAny_pure (wpAny_raiseNew_none hh hE)
end
def newAt (ea : Addr) (cls : Value) (dx : Option Addr) : HO := .ext fun h => Made h ea cls dx
theorem newAt_ok {P : Program} {w : World} {H : Hp} {g : Heap} {ea : Addr} {cls : Value} {dx : Option Addr} (m : Made g ea cls dx) : ObjOk P w H g ea (newAt ea cls dx) := by
  obtain ⟨oe, vs, a0, e1, e2⟩ := id m
  exact ⟨m, ⟨oe, e1⟩, fun h1 h2 ⟨o1, v1, b1, q1, q2⟩ k => ⟨o1, v1, b1, k _ q1, q2⟩⟩
theorem newAt_is {P : Program} {w : World} {H : Hp} {g : Heap} {ea : Addr} {cls : Value} {dx : Option Addr} (k : HOk P w H g) (e : H ea = some (newAt ea cls dx)) : Made g ea cls dx := (k _ _ e).1
def dropH (H : Hp) (a : Addr) : Hp := fun b => if b = a then none else H b
theorem dropH_same {H : Hp} {a : Addr} : dropH H a a = none := by unfold dropH; rw [if_pos rfl]
theorem dropH_ne {H : Hp} {a b : Addr} (h : b ≠ a) : dropH H a b = H b := by unfold dropH; rw [if_neg h]
section
variable {X : Cx} {pins : List (Addr × Obj)} {σ : St} {H : Hp} {s : Shared} {ea C CL f : Addr}
theorem Inv.madeX (I : Inv X pins σ H s) (us : List Value) : Inv X pins σ (upd H (s.heap.objs.size + 1) (newAt (s.heap.objs.size + 1) (.ref C) none)) { s with heap := (s.heap.push { cls := .type "tuple", data := .seq us.toArray }).push (rawExc C s.heap.objs.size) } := by
  have I1 : Inv X pins σ H { s with heap := s.heap.push { cls := .type "tuple", data := .seq us.toArray } } := I.kept (t' := s.toks) fun b o q => Heap.get?_push_of_some _ q
  refine I1.laid (t' := s.toks) (fun b o q => Heap.get?_push_of_some _ q) (by show (s.heap.push _).objs.size ≤ _; rw [Heap.size_push]; exact Nat.le_refl _) (newAt_ok ?_)
  exact ⟨_, _, _, Heap.get?_push_at (by rw [Heap.size_push]) rfl, rfl, rfl, rfl, rfl, rfl⟩
theorem Inv.untrack {φ : Heap → Prop} (I : Inv X pins σ H s) (e : H ea = some (.ext φ)) (old : X.s₀.heap.get? ea = none) : Inv X pins σ (dropH H ea) s := by
  have nt : ∀ b o, H b = some o → (∀ ψ, o ≠ .ext ψ) → b ≠ ea := fun b o q n z => by rw [z, e] at q; cases q; exact n _ rfl
  refine ⟨I.ok, I.os, I.bare, ⟨I.base.keep, I.base.slot, fun b o q n hx => ?_, I.base.there, fun b xs q => ?_, fun b o xs q => ?_, fun b ps q => ?_⟩, I.loc, I.cell, ?_, fun x c q => ?_, fun p hp => ?_, fun b u q => ?_, I.len⟩
  · rw [dropH_ne (fun z => by rw [z, old] at q; cases q)]; exact I.base.free b o q n hx
  · have q2 := I.base.tups b xs q
    rw [dropH_ne (nt b _ q2 (fun _ z => by cases z))]; exact q2
  · have q2 := I.base.frzs b o xs q
    rw [dropH_ne (nt b _ q2 (fun _ z => by cases z))]; exact q2
  · obtain ⟨mm, q2⟩ := I.base.tbls b ps q
    exact ⟨mm, by rw [dropH_ne (nt b _ q2 (fun _ z => by cases z))]; exact q2⟩
  · rw [dropH_ne (ne_of_none e I.free).symm]; exact I.free
  · rw [dropH_ne (ne_of_none e (I.freeC x c q)).symm]; exact I.freeC x c q
  · obtain ⟨q1, q2, q3⟩ := I.pin p hp
    exact ⟨q1, by rw [dropH_ne (ne_of_none e q2).symm]; exact q2, q3⟩
  · by_cases hb : b = ea
    · rw [hb, dropH_same] at q; cases q
    · rw [dropH_ne hb] at q
      exact (I.hok b u q).stay (fun _ _ _ z => z) (fun c z => by rw [dropH_ne (nt c _ z (fun _ y => by cases y))]; exact z) fun c xs z => by rw [dropH_ne (nt c _ z (fun _ y => by cases y))]; exact z
end
def tRaiseI (E : XK) (C : Addr) (sp : Sp) (dvs : List V) (t : TA) : TS := fun _ σ H => t σ H fun vs H1 => vs.length ≤ 1000 ∧ ∀ ea, H1 ea = none →
  sp (.ref ea :: (vs ++ dvs)) (upd H1 ea (newAt ea (.ref C) none)) (fun v H2 => v = .non ∧ ∃ dx, H2 ea = some (newAt ea (.ref C) dx) ∧ E (.ref C) dx (dropH H2 ea)) E0
section
variable {P : Program} {w : World} {K : PySem.W.Frag} {mg : Str → Option Value} {base : Heap} {N : List Str} {qual : Str} {scope : Scope} {f : Addr} {cd : Value} {A : Around} {outer : List Env} {s₀ : Shared} {H₀ : Hp} {E : XK}
theorem ps_raiseI {x : Str} {e : Expr} {es : List Expr} {t : TA} {C CL fi : Addr} {fd : FuncData} {ps : List Str} {sp : Sp} {dvs : List V} {ds : List Value} {k : Nat} {np cpos pos : Pos} (xi : XInit K C CL fi)
    (G : FnOk P w K mg base (CXE P w) k fi fd ps sp) (hr : Room (k + 1) (cxE P w K mg base N qual scope f cd A outer s₀ H₀ E).A)
    (hg : Gl (cxE P w K mg base N qual scope f cd A outer s₀ H₀ E) x) (hm : mg x = some (.ref C)) (hb : Binds K fd ps ds) (hd : Vals dvs ds) (ha : PA (cxE P w K mg base N qual scope f cd A outer s₀ H₀ E) (e :: es) t)
    (hdb : (x == ("__debug__" : Str)) = false := by decide) (he : starEach (e :: es) (cxE P w K mg base N qual scope f cd A outer s₀ H₀ E).env = (false, eval e (cxE P w K mg base N qual scope f cd A outer s₀ H₀ E).env) :: starEach es (cxE P w K mg base N qual scope f cd A outer s₀ H₀ E).env := by rfl)
    (hpl : (backTo cpos (starEach es (cxE P w K mg base N qual scope f cd A outer s₀ H₀ E).env)).any (·.1) = false := by rfl) :
    PS (cxE P w K mg base N qual scope f cd A outer s₀ H₀ E) (.Raise (some (.Call (.Name x np) (e :: es) [] cpos)) none pos) (tRaiseI E C sp dvs t) := by
  intro pins s σ H D I h
  rw [arm_exec_Raise]
  refine wpAny_bind (wpAny_standAt ?_)
  refine raise_inst (K := K) (I.ok.hd rfl) ?_
  refine wpAny_Call_Name_kw (ld_glob I hg hm ?_ hdb)
  refine PySem.W.callWith_K (h₀ := base) I.ok.mod.kin xi.kp (thn (ha cpos pins s σ H _ I h) fun us s1 ⟨vs, H1, I1, r, hlen, q⟩ => ⟨I1.kIn, ?_⟩) he hpl
  have nw : s1.heap.get? (s1.heap.objs.size + 1) = none := Heap.get?_none_of_le (Nat.le_succ _)
  have hq := q _ (I1.hok.none_of nw)
  have ap := I1.apart rfl nw
  have I2 := I1.madeX (C := C) us
  have r2 : Vals (V.ref (s1.heap.objs.size + 1) :: (vs ++ dvs)) (Value.ref (s1.heap.objs.size + 1) :: (us ++ ds)) := .cons rfl (r.append hd)
  have hl : (Value.ref (s1.heap.objs.size + 1) :: us ++ ds).length = ps.length := by
    have e := r2.length
    rw [G.len _ _ _ _ hq] at e
    exact e.symm
  refine wpAny_call (make_exc I1.kIn xi (by show us.length ≤ sizeLine; rw [← r.length]; exact le_line hlen) (codeAny_mono (G.run _ _ _ _ ⟨Value.ref (s1.heap.objs.size + 1) :: us, []⟩ (Value.ref (s1.heap.objs.size + 1) :: (us ++ ds)) _ _ _ (hr.make C us [])
    (I2.env0.make C us []) (hb _ (Value.ref (s1.heap.objs.size + 1) :: us) I2.kIn hl) r2 hq) fun rr s' hq' => ?_))
  cases rr with
  | error ev =>
    obtain ⟨_, _, _, _, _, _, _, _, _, _, _, _, _, _, _, z⟩ := hq'
    exact z.elim
  | ok fl =>
    cases fl with
    | ret u =>
      obtain ⟨v, H', I3, rv, ev, dx, e3, q3⟩ := I2.after hq'
      subst ev
      have md := newAt_is I3.hok e3
      exact ⟨rv, _, dx, rfl, I3.kIn, ⟨C, CL, fi, xi, md⟩, throw_ok (I3.untrack e3 ap.old) md ⟨dropH_same, ap.old, ap.loc, ap.cell, ap.pin⟩ q3⟩
    | next => exact False.elim hq'
    | brk => exact False.elim hq'
    | cont => exact False.elim hq'
end
end L2
set_option maxRecDepth 100000
set_option maxHeartbeats 1000000
namespace L2
open PySem PySem.Spec PyProof.Rows
section
variable {X : Cx} {pins : List (Addr × Obj)} {σ : St} {H : Hp} {s : Shared} {ea : Addr}
theorem Inv.trackO {u : HO} (I : Inv X pins σ H s) (a : Apart X pins H ea) (hx : ObjOk X.prog X.w (upd H ea u) s.heap ea u) : Inv X pins σ (upd H ea u) s := by
  have ne : ∀ b o, X.s₀.heap.get? b = some o → b ≠ ea := fun b o e z => by rw [z, a.old] at e; cases e
  have nt : ∀ b o, H b = some o → b ≠ ea := fun b o e => ne_of_none e a.trk
  refine ⟨I.ok, I.os, I.bare, ⟨I.base.keep, I.base.slot, fun b o e n hx => ?_, I.base.there, fun b xs e => ?_, fun b o xs e => ?_, fun b ps e => ?_⟩, I.loc, I.cell, ?_, fun x c e => ?_, fun p hp => ?_, fun b v e => ?_, I.len⟩
  · rw [upd_ne (ne b o e)]; exact I.base.free b o e n hx
  · have q := I.base.tups b xs e
    rw [upd_ne (nt b _ q)]; exact q
  · have q := I.base.frzs b o xs e
    rw [upd_ne (nt b _ q)]; exact q
  · obtain ⟨mm, q⟩ := I.base.tbls b ps e
    exact ⟨mm, by rw [upd_ne (nt b _ q)]; exact q⟩
  · rw [upd_ne (Ne.symm a.loc)]; exact I.free
  · rw [upd_ne (a.cell x c e)]; exact I.freeC x c e
  · obtain ⟨q1, q2, q3⟩ := I.pin p hp
    exact ⟨q1, by rw [upd_ne (a.pin p hp)]; exact q2, q3⟩
  · by_cases hb : b = ea
    · subst hb
      rw [upd_same] at e
      cases e
      exact hx
    · rw [upd_ne hb] at e
      exact (I.hok b v e).stay (fun _ _ _ q => q) (fun c q => by rw [upd_ne (nt c _ q)]; exact q) fun c xs q => by rw [upd_ne (nt c _ q)]; exact q
theorem upd_id {a : Addr} {u : HO} (e : H a = some u) : upd H a u = H := by
  funext b
  unfold upd
  split
  · rename_i z; rw [z, e]
  · rfl
end
def sXFld (K : PySem.W.Frag) (ta tv : TE) (f : Str) : TS := fun D σ H => tv σ H fun y H1 => ta σ H1 fun x H2 => ∃ ea C CL fi, x = .ref ea ∧ H2 ea = some (newAt ea (.ref C) none) ∧ XInit K C CL fi ∧ PySem.W.findIn K (.ref C) f = some none ∧
  ∀ dx, H2 dx = none → D.nx σ (upd (upd H2 ea (newAt ea (.ref C) (some dx))) dx (.xd [(f, y)]))
def tUp (K : PySem.W.Frag) (CL : Addr) (t : TA) : TE := fun σ H Q => t σ H fun vs H1 => ∃ ea C fi rest dx, vs = .ref ea :: rest ∧ rest.length ≤ 1000 ∧ H1 ea = some (newAt ea (.ref C) dx) ∧ XInit K C CL fi ∧ Q .non H1
structure UpInit (K : PySem.W.Frag) (CL : Addr) : Prop where
  sp : PySem.W.specialIn K (.ref CL) "__getattribute__" = some (some (.builtin "type.__getattribute__"))
  rd : PySem.W.readsIn K CL (.type "type") = true
  fc : PySem.W.findCls K (.ref CL) (.type "type") "__init__" = some (.val (.builtin "ValueError.__init__"))
section
variable {X : Cx} {o e value : Expr} {es : List Expr} {f x : Str} {pos pos' apos np : Pos} {ta tv : TE} {t : TA}
theorem ps_xfld (K : PySem.W.Frag) (ha : PE X o ta) (hv : PE X value tv) (hx : X.ex = [] := by rfl) (hK : X.K = K := by rfl) (hs : swapsWith value (some (.Attribute o f pos')) pos.line X.env = pure false := by rfl) : PS X (.Assign [.Attribute o f pos'] value pos) (sXFld K ta tv f) := by
  subst hK
  intro pins s σ H D I h
  refine plainObj_wpAny_Assign_Attribute (thn (hv pins s σ H _ I h) fun u s1 ⟨y, H1, I1, ry, q⟩ => thn (ha pins s1 σ H1 _ I1 q) fun ov s2 ⟨x, H2, I2, rx, ea, C, CL, fi, ex, hea, xi, hn, q2⟩ => ?_) hs
  subst ex
  obtain rfl : ov = Value.ref ea := rx
  obtain ⟨oe, vs, a0, e1, e2, e3, e4, e5, e6⟩ := newAt_is I2.hok hea
  refine xset I2.kIn xi e1 e2 e3 e4 hn fun h' tk g1 g2 g3 => ?_
  have nw : s2.heap.get? s2.heap.objs.size = none := Heap.get?_none_of_le (Nat.le_refl _)
  have ap := I2.apart hx nw
  have ne : s2.heap.objs.size ≠ ea := Ne.symm (Nat.ne_of_lt (Heap.lt_size e1))
  have I3 : Inv X pins σ (upd H2 ea (newAt ea (.ref C) (some s2.heap.objs.size))) { s2 with heap := h', toks := tk } :=
    I2.write (x := ea) (e := ea) (by rw [hea]; exact True.intro) (.inl rfl) (fun b q hb z => g3 b q hb z) ⟨_, g1⟩ (newAt_ok ⟨_, vs, a0, g1, e2, rfl, e4, e5, e6⟩)
  have I4 := I3.trackO (u := .xd [(f, y)]) (ea := s2.heap.objs.size) ⟨by rw [upd_ne ne]; exact ap.trk, ap.old, ap.loc, ap.cell, ap.pin⟩ ⟨_, g2, fun g => by
    by_cases z : g = f
    · subst z
      simp [List.lookup, ry, RelO]
    · simp [List.lookup, z, RelO, beq_false_of_ne z]⟩
  exact ⟨σ, _, I4, q2 _ ap.trk⟩
theorem pe_upinit (K : PySem.W.Frag) {CL : Addr} (U : UpInit K CL) (hg : Gl X x) (hm : X.mg x = some (.ref CL)) (ha : PA X (e :: es) t) {pl : Sem Bool} (hK : X.K = K := by rfl) (hdb : (x == ("__debug__" : Str)) = false := by decide)
    (hst : starEach (e :: es) X.env = (false, eval e X.env) :: starEach es X.env := by rfl) (hpl : (backTo pos (starEach es X.env)).any (·.1) = false := by rfl)
    (ht : eval (.Call (.Attribute (.Name x np) "__init__" apos) (e :: es) [] pos) X.env = (do
      let ov ← eval (.Name x np) X.env
      standAt apos.atName
      let (f, first) ← holding [ov] (getMethod ov "__init__" pl)
      callWith pos f first (backTo pos (starEach (e :: es) X.env)) (backToKw pos (keywordEach [] X.env))) := by rfl) :
    PE X (.Call (.Attribute (.Name x np) "__init__" apos) (e :: es) [] pos) (tUp K CL t) := by
  subst hK
  intro pins s σ H Q I h
  refine PySem.W.methodCall_KW (pl := pl) (ld_glob I hg hm ?_ hdb) ht
  refine PySem.W.method_cls I.kIn U.sp (PySem.W.cls_value I.kIn U.rd U.fc rfl ?_)
  have I0 := I.tok (s.toks + 1)
  refine callWith_builtin1 ?_ hst hpl
  refine thn (ha pos pins _ σ H _ I0 h) fun us s1 ⟨vs, H1, I1, r, ea, C, fi, rest, dx, ev, hl, hea, xi, q⟩ => ?_
  subst ev
  cases r with
  | cons r0 r1 =>
  cases r0
  refine call_vinit I1.kIn xi (newAt_is I1.hok hea) (by rw [← r1.length]; exact le_line hl) fun h' md kp => ?_
  obtain ⟨oe, _, _, e1, _⟩ := id md
  have I2 : Inv X pins σ (upd H1 ea (newAt ea (.ref C) dx)) { s1 with heap := h', toks := s1.toks } := I1.write (x := ea) (e := ea) (by rw [hea]; exact True.intro) (.inl rfl) (fun b q hb z => kp b q hb z) ⟨_, e1⟩ (newAt_ok md)
  rw [upd_id hea] at I2
  exact ⟨.non, H1, I2, rfl, q⟩
end
structure FnH (P : Program) (w : World) (K : PySem.W.Frag) (mg : Str → Option Value) (base : Heap) (k : Nat) (f : Addr) (fd : FuncData) (ps : List Str) (sp : Sp) : Prop where
  len : ∀ vs H Q E, sp vs H Q E → vs.length = ps.length
  run : ∀ (A : Around) (ea : Addr) (outer : List Env) (s : Shared) (H : Hp) (args : Args) (us : List Value) (vs : List V) (Q : VK), Room k A → Env0 P w K mg base A outer s H → BindsTo s fd args (ps.zip us) → Vals vs us → sp vs H Q E0 →
    codeAny (model P w) (A.mark (some (.ref ea))) (.call (.ref f) args) (fun r s' => match r with | .ok (.ret u) => CE outer P w H s Q u s' | _ => False) s
section
variable {P : Program} {w : World} {K : PySem.W.Frag} {mg : Str → Option Value} {base : Heap} {qual : Str} {f : Addr}
end
end L2
set_option maxRecDepth 100000
set_option maxHeartbeats 1000000
namespace L2
open PySem PySem.Spec PySem.NumText PyProof.Rows
section
variable {X : Cx}
theorem mt_ljustF : MtR X "str.ljust" (fun x xs H Q => ∃ z i f, x = .str z ∧ xs = [.int i, .str f] ∧ PadOk i = true ∧ f.length = 1 ∧ Q (.str (Txt.ljustF z i (f.cps.getD 0 0))) H) := by
  intro pins s σ H x xs v us Q I rx r h
  obtain ⟨z, i, f, rfl, rfl, hp, hf, q⟩ := h
  obtain ⟨t, rfl⟩ := rx
  obtain ⟨u1, u2, rfl, ⟨t1, rfl⟩, ⟨t2, rfl⟩⟩ := vals2 r
  exact ljust_fill hp hf fun t2 k => ⟨.str _, H, I.tok k, ⟨_, rfl⟩, q⟩
theorem call_allB (K : PySem.W.Frag) (hc : X.calm = true) (hK : X.K = K := by rfl) : CallR X (.builtin "all") (fun xs H Q => ∃ (p : Addr) (bs : List Bool), xs = [.ref p] ∧ SqL K H p (bs.map V.bl) ∧ Q (.bl (bs.all id)) H) := by
  subst hK
  intro pins s σ H xs us Q I r h
  obtain ⟨p, bs, rfl, hq, q⟩ := h
  obtain ⟨u, rfl, rfl⟩ := vals1 r
  obtain ⟨its, rv, pl, hz⟩ := I.list hq
  have nth : ∀ (i : Nat) (v : Value), its.toArray[i]? = some v → v = Value.bool (bs.getD i true) := fun i v e => by
    have e : its[i]? = some v := by simpa using e
    have hi : i < bs.length := by
      have := (List.getElem?_eq_some_iff.mp e).1
      have h2 := rv.length
      simp at h2
      omega
    obtain ⟨u, e2, r2⟩ := rv.get (i := i) (x := V.bl bs[i]) (by simp [hi])
    rw [e] at e2
    cases e2
    cases r2
    rw [List.getD_eq_getElem?_getD, List.getElem?_eq_getElem hi]
    rfl
  refine call_all_walk (wpAny_pyIter_list pl.isList ?_)
  have hne : p ≠ s.heap.objs.size := by
    obtain ⟨o, e, _⟩ := pl.isList
    exact Nat.ne_of_lt (Heap.lt_size e)
  refine ⟨s.heap.objs.size, _, _, _, _, _, fun i => bs.getD i true, rfl, Walks.list (A := X.A.in1) (I.ok.hd hc) s.heap.objs.size p hne its.toArray, ⟨?_, ?_⟩, ?_, ?_⟩
  · exact ⟨_, Heap.get?_push_size _ rfl, rfl, rfl⟩
  · obtain ⟨o, e, r⟩ := pl.isList
    exact ⟨o, Heap.get?_push_of_some _ e, r⟩
  · intro i v s1 Q1 E1 hP hQ
    rw [nth i v hP]
    exact wpAny_truthy_bool hQ
  · intro h' tk hk
    refine ⟨.bl _, H, I.kept (t' := tk) (h' := h') fun b o e => hk b o (fun z => ?_) (Heap.get?_push_of_some _ e), rfl, ?_⟩
    · rw [List.mem_singleton] at z
      rw [z] at e
      exact absurd (Heap.lt_size e) (Nat.lt_irrefl _)
    · have hl : its.toArray.size = bs.length := by have := rv.length; simp at this ⊢; omega
      rw [hl]
      have : ((List.range bs.length).all fun i => bs.getD i true) = bs.all id := by
        clear q rv nth hl hq hz
        induction bs with
        | nil => rfl
        | cons b bs ih => rw [List.length_cons, List.range_succ_eq_map, List.all_cons, List.all_map, List.all_cons, ← ih]; rfl
      rw [this]; exact q
theorem call_intT : CallR X (.type "int") (fun xs H Q => ∃ z, xs = [.str z] ∧ AllDigits (cs z) ∧ cs z ≠ [] ∧ z.length ≤ 640 ∧ Q (.int (digitsVal (cs z))) H) := by
  intro pins s σ H xs us Q I r h
  obtain ⟨z, rfl, h1, h2, h3, q⟩ := h
  obtain ⟨u, rfl, t, rfl⟩ := vals1 r
  exact PySem.W.KIN.call_text (intText_digits h1 h2 (Nat.le_trans h3 (by decide))) h3 ⟨.int _, H, I.tok _, ⟨_, rfl⟩, q⟩
end
def strsOf : List Expr → Option (List Str)
  | [] => some []
  | .Constant (.str x) _ _ :: es => (strsOf es).map (x :: ·)
  | _ => none
def tStrs (zs : List Str) : TA := fun _ H Q => Q (zs.map V.str) H
theorem pa_strs {X : Cx} : ∀ {es : List Expr} {zs : List Str}, strsOf es = some zs → PA X es (tStrs zs)
  | [], zs, h => by
    cases h
    exact pa_nil
  | .Constant (.str x) j p :: es, zs, h => by
    rw [strsOf] at h
    obtain ⟨ys, e, rfl⟩ := Option.map_eq_some_iff.mp h
    intro pos pins s σ H Q I q
    exact (pa_cons pe_str (pa_strs e) rfl) pos pins s σ H Q I q
theorem boot_all : bootBuiltins "all" = some (.builtin "all") := by decide +kernel
theorem comp_str {x : Str} {D : Addr} {g : TG} {te : TE} {σ0 : St} {H1 : Hp} {Q : Hp → Prop} (f : Nat → Bool) (ok : St → Prop) (hD : H1 D = none) (hz : x.length ≤ 1000) (h0 : ok σ0)
    (hs : ∀ c σ' H (N : St → V → Hp → Prop), c ∈ cs x → ok σ' → (∀ σ3, ok σ3 → N σ3 (.bl (f c)) H) → g (.str ⟨#[c]⟩) σ' H fun σ3 H3 => te σ3 H3 fun v H4 => N σ3 v H4)
    (hd : ∀ H', Same H1 H' → H' D = some (.lst (((cs x).map f).map V.bl)) → Q H') :
    ∃ W : Nat → Nat → St → Hp → Prop, (∃ m, W 0 m σ0 (upd H1 D (.lst []))) ∧
      ∀ i m σ' H', W i m σ' H' → ((Its x).stop i H' ∧ Q H') ∨ ((Its x).go i H' ∧ ∀ y H2, (Its x).yld i H' y H2 → g y σ' H2 fun σ3 H3 => te σ3 H3 fun v H4 => ∃ xs, H4 D = some (.lst xs) ∧ xs.length < sizeLine ∧ ∃ m', m' < m ∧ W (i + 1) m' σ3 (upd H4 D (.lst (xs ++ [v])))) := by
  have sz : x.cps.size = (cs x).length := by simp [cs]
  have hz2 : (cs x).length ≤ 1000 := by rw [cs_len]; exact hz
  refine ⟨fun i m σ' H' => m = (cs x).length - i ∧ i ≤ (cs x).length ∧ ok σ' ∧ Same H1 H' ∧ H' D = some (.lst ((((cs x).take i).map f).map V.bl)), ⟨_, rfl, Nat.zero_le _, h0, Same.new hD, upd_same⟩, ?_⟩
  rintro i m σ' H' ⟨rfl, hi, ho, sm, hl⟩
  by_cases hlt : i < (cs x).length
  · refine .inr ⟨by show i < x.cps.size; omega, fun y H2 yl => ?_⟩
    obtain ⟨e1, c, e2, e3⟩ := yl
    subst e1 e3
    have e2' : (cs x)[i]? = some c := by simpa [cs] using e2
    refine hs c σ' _ (fun σ3 v H4 => ∃ xs', H4 D = some (.lst xs') ∧ xs'.length < sizeLine ∧ ∃ m', m' < (cs x).length - i ∧ _) (List.mem_of_getElem? e2') ho fun σ3 ho3 => ?_
    refine ⟨_, hl, Nat.lt_of_lt_of_le (show _ < 1001 by simp; omega) (by decide), (cs x).length - (i + 1), by omega, rfl, hlt, ho3, sm.upd hD, ?_⟩
    rw [upd_same, List.take_add_one, e2', List.map_append, List.map_append]
    rfl
  · have e : i = (cs x).length := by omega
    subst e
    refine .inl ⟨by show x.cps.size ≤ _; omega, hd H' sm ?_⟩
    rw [List.take_length] at hl
    exact hl
theorem in_figs (c : Nat) : (!(Builtin.Str.occurrences figs ⟨#[c]⟩ 0 figs.length 1).isEmpty) = isDig c := by
  rw [StrLaws.found_one, Bool.eq_iff_iff, decide_eq_true_eq, isDig_iff]
  constructor
  · intro h
    exact isDig_iff.mp (List.all_eq_true.mp (show (cs figs).all isDig = true by decide +kernel) c h)
  · rintro ⟨h1, h2⟩
    have : c = 48 ∨ c = 49 ∨ c = 50 ∨ c = 51 ∨ c = 52 ∨ c = 53 ∨ c = 54 ∨ c = 55 ∨ c = 56 ∨ c = 57 := by omega
    rcases this with rfl | rfl | rfl | rfl | rfl | rfl | rfl | rfl | rfl | rfl <;> decide +kernel
theorem num_of {l : List Nat} (hd : AllDigits l) (h : l = [48] ∨ (l ≠ [] ∧ l.head? ≠ some 48)) : cs (Str.ofString (toString ((digitsVal l : Nat) : Int))) = l := by
  rw [num_cs, toDigits_all l hd]
  rcases h with rfl | ⟨h1, h2⟩
  · decide
  · cases l with
    | nil => exact absurd rfl h1
    | cons c r =>
      have ne : ¬ (c == 48) = true := fun z => h2 (by rw [eq_of_beq z]; rfl)
      rw [List.dropWhile_cons, if_neg ne]
      show ((c :: r).map Char.ofNat).map Char.toNat = _
      rw [List.map_map]
      have key : ∀ l : List Nat, AllDigits l → l.map (Char.toNat ∘ Char.ofNat) = l := by
        intro l
        induction l with
        | nil => intro _; rfl
        | cons a t ih =>
          intro hl
          have ha := hl a (by simp)
          rw [List.map_cons, ih fun c hc => hl c (by simp [hc])]
          have : a = 48 ∨ a = 49 ∨ a = 50 ∨ a = 51 ∨ a = 52 ∨ a = 53 ∨ a = 54 ∨ a = 55 ∨ a = 56 ∨ a = 57 := by omega
          rcases this with rfl | rfl | rfl | rfl | rfl | rfl | rfl | rfl | rfl | rfl <;> rfl
      exact key _ hd
theorem slice_to {z : Str} {j : Int} (h0 : 0 ≤ j) (h1 : j ≤ z.length) : cs (Txt.slice z none (some j)) = (cs z).take j.toNat := by
  have := eq_of_beq (slice_closes_toL h0 h1)
  rw [this]
  show (((cs z).drop 0).take (j - 0).toNat).toArray.toList = _
  simp
end L2
set_option maxRecDepth 100000
set_option maxHeartbeats 1000000
namespace L2
open PySem PySem.Spec PySem.NumText PyProof.Rows
section
variable {X : Cx}
theorem boot_tuple : bootBuiltins "tuple" = some (.type "tuple") := by decide +kernel
theorem boot_list : bootBuiltins "list" = some (.type "list") := by decide +kernel
theorem op_in_seqK (K : PySem.W.Frag) (hK : X.K = K := by rfl) : OpR X (compareOp .In) (rIn K false) := by subst hK; exact op_in_seq
theorem sqt_of {K : PySem.W.Frag} {a : Addr} {od : Option Addr} {n : Nat} {sl : Array (Option Value)} {us : List Value} {xs : List V} (h : K.lookup a = some ⟨.type "tuple", od, .seq us.toArray n, sl⟩) (hl : us.length ≤ 1000) (r : Vals xs us) (H : Hp) : SqT K H a xs :=
  .inr ⟨_, _, _, h, rfl, rfl, by rw [List.size_toArray]; exact le_line hl, r⟩
end
def lets : Str := Str.ofString "abcdefghijklmnopqrstuvwxyz"
def isLet (c : Nat) : Bool := decide (97 ≤ c) && decide (c ≤ 122)
theorem lets_are : cs lets = List.range' 97 26 := by decide +kernel
theorem in_lets (c : Nat) : (!(Builtin.Str.occurrences lets ⟨#[c]⟩ 0 lets.length 1).isEmpty) = isLet c := by
  rw [StrLaws.found_one, Bool.eq_iff_iff, decide_eq_true_eq]
  show c ∈ cs lets ↔ _
  rw [lets_are, List.mem_range'_1]
  unfold isLet
  simp only [Bool.and_eq_true, decide_eq_true_eq]
  omega
theorem tyKeep {K : PySem.W.Frag} {H H' : Hp} {x : V} {t : Value} (h : TyOf K H x t) (s : Same H H') : TyOf K H' x t := by
  cases h with
  | non => exact .non
  | bl b => exact .bl b
  | int i => exact .int i
  | str z => exact .str z
  | flt z => exact .flt z
  | lst e => exact .lst (s _ _ e)
  | frz e => exact .frz (s _ _ e)
  | tup e => exact .tup (s _ _ e)
  | dK e => exact .dK (s _ _ e)
  | dT e => exact .dT (s _ _ e)
  | ins e a1 a2 a3 a4 a5 => exact .ins (s _ _ e) a1 a2 a3 a4 a5
structure ItemOk (e : Expr) (te : TE) : Prop where
  pe : ∀ X : Cx, PE X e te
  st : ∀ (es : List Expr) (env : Env), starEach (e :: es) env = (false, eval e env) :: starEach es env
theorem ItemOk.pa {X : Cx} {e : Expr} {te : TE} {es : List Expr} {t : TA} (i : ItemOk e te) (h : PA X es t) : PA X (e :: es) (tCons te t) := pa_cons (i.pe X) h (i.st es X.env)
end L2
namespace L2
open PySem PySem.Spec PySem.NumText PyProof.Rows
theorem mt_startswith {X : Cx} : MtR X "str.startswith" (fun x xs H Q => ∃ z y, x = .str z ∧ xs = [.str y] ∧ Q (.bl (Txt.startswith z y)) H) := by
  intro pins s σ H x xs v us Q I rx r h
  obtain ⟨z, y, rfl, rfl, q⟩ := h
  obtain ⟨t, rfl⟩ := rx
  obtain ⟨u, rfl, t', rfl⟩ := vals1 r
  exact SC.startswith ⟨.bl _, H, I, rfl, q⟩
theorem starts_one (z : Str) (c : Nat) : Txt.startswith z ⟨#[c]⟩ = decide ((cs z).head? = some c) := by
  unfold Txt.startswith
  rw [Bool.eq_iff_iff, Bool.and_eq_true, decide_eq_true_eq, decide_eq_true_eq, StrLaws.subAt_one, List.head?_eq_getElem?]
theorem val_mono (m : List Nat) : ∀ l : List Nat, digitsVal l ≤ digitsVal (l ++ m) := by
  induction m with
  | nil => intro l; rw [List.append_nil]; exact Nat.le_refl _
  | cons c m ih =>
    intro l
    rw [show l ++ c :: m = (l ++ [c]) ++ m by simp]
    refine Nat.le_trans ?_ (ih _)
    rw [digitsVal_snoc]
    omega
theorem cut_mem {xs : List V} {lo hi : Option Int} {x : V} (h : x ∈ cutV xs lo hi) : x ∈ xs := by
  unfold cutV at h
  exact List.mem_of_mem_drop (List.mem_of_mem_take h)
theorem app_len (a b : Str) : (a ++ b).length = a.length + b.length := by rw [← cs_len, cs_app, List.length_append, cs_len, cs_len]
theorem ne_text {x y : Str} (h : cs x ≠ cs y) : ¬ (V.str x = V.str y) := fun e => h (congrArg cs (V.str.inj e))
theorem cs_empty : cs (Str.ofString "") = [] := by decide +kernel
theorem cs_zero : cs (Str.ofString "0") = [48] := by decide +kernel
end L2
set_option maxRecDepth 100000
namespace L2
open PySem PySem.Spec PyProof.Rows
section
variable {κ : Type} [DecidableEq κ]
def valV (kvs : List (κ × V)) (k : κ) : Option V := (kvs.find? fun kv => decide (kv.1 = k)).map (·.2)
def putK (kvs : List (κ × V)) (k : κ) (v : V) : List (κ × V) :=
  if (kvs.any fun kv => decide (kv.1 = k)) = true then kvs.map (fun kv => if kv.1 = k then (kv.1, v) else kv) else kvs ++ [(k, v)]
def dropK (kvs : List (κ × V)) (k : κ) : List (κ × V) := kvs.filter fun kv => decide (kv.1 ≠ k)
theorem valV_pos {p : κ × V} {r : List (κ × V)} {k : κ} (e : p.1 = k) : valV (p :: r) k = some p.2 := by simp [valV, List.find?_cons, e]
theorem valV_neg {p : κ × V} {r : List (κ × V)} {k : κ} (e : ¬ p.1 = k) : valV (p :: r) k = valV r k := by simp [valV, List.find?_cons, e]
theorem valV_any (k : κ) : ∀ kvs : List (κ × V), (kvs.any fun kv => decide (kv.1 = k)) = (valV kvs k).isSome
  | [] => rfl
  | p :: r => by
    rw [List.any_cons]
    by_cases e : p.1 = k
    · simp only [valV_pos e, decide_eq_true e, Bool.true_or, Option.isSome_some]
    · rw [valV_neg e, decide_eq_false e, Bool.false_or]; exact valV_any k r
theorem valV_map (k j : κ) (y : V) : ∀ kvs : List (κ × V), valV (kvs.map fun kv => if kv.1 = k then (kv.1, y) else kv) j = (valV kvs j).map fun x => if j = k then y else x
  | [] => rfl
  | p :: r => by
    have ih := valV_map k j y r
    rw [List.map_cons]
    by_cases h : p.1 = k
    · rw [if_pos h]
      by_cases e : p.1 = j
      · rw [valV_pos (p := (p.1, y)) e, valV_pos e, Option.map_some, if_pos (e.symm.trans h)]
      · rw [valV_neg (p := (p.1, y)) e, valV_neg e, ih]
    · rw [if_neg h]
      by_cases e : p.1 = j
      · rw [valV_pos (p := p) e, valV_pos e, Option.map_some, if_neg (fun z => h (e.trans z))]
      · rw [valV_neg (p := p) e, valV_neg e, ih]
theorem valV_snoc (k j : κ) (y : V) : ∀ kvs : List (κ × V), valV kvs k = none → valV (kvs ++ [(k, y)]) j = if j = k then some y else valV kvs j
  | [], _ => by
    by_cases e : k = j
    · rw [if_pos e.symm]; exact valV_pos (p := (k, y)) e
    · rw [if_neg (fun z => e z.symm)]; exact valV_neg (p := (k, y)) e
  | p :: r, hn => by
    rw [List.cons_append]
    have hk : ¬ p.1 = k := fun z => by rw [valV_pos z] at hn; cases hn
    rw [valV_neg hk] at hn
    have ih := valV_snoc k j y r hn
    by_cases e : p.1 = j
    · rw [valV_pos e, valV_pos e, if_neg (fun z => hk (e.trans z))]
    · rw [valV_neg e, valV_neg e, ih]
theorem valV_put (kvs : List (κ × V)) (k j : κ) (y : V) : valV (putK kvs k y) j = if j = k then some y else valV kvs j := by
  unfold putK
  by_cases a : (kvs.any fun kv => decide (kv.1 = k)) = true
  · rw [if_pos a, valV_map]
    rw [valV_any] at a
    by_cases e : j = k
    · obtain ⟨x, hx⟩ := Option.isSome_iff_exists.mp a
      rw [if_pos e, e, hx, Option.map_some, if_pos rfl]
    · rw [if_neg e]
      cases valV kvs j with
      | none => rfl
      | some x => rw [Option.map_some, if_neg e]
  · rw [if_neg a]
    refine valV_snoc k j y kvs ?_
    rw [valV_any] at a
    cases q : valV kvs k with
    | none => rfl
    | some x => rw [q] at a; exact (a rfl).elim
theorem length_putK (kvs : List (κ × V)) (k : κ) (v : V) : (putK kvs k v).length ≤ kvs.length + 1 := by
  unfold putK
  split
  · rw [List.length_map]; omega
  · rw [List.length_append, List.length_cons, List.length_nil]; omega
theorem RelO.isSome_eq {o : Option V} {u : Option Value} (r : RelO o u) : o.isSome = u.isSome := by
  cases o with
  | none => cases u with
    | none => rfl
    | some _ => exact (show False from r).elim
  | some _ => cases u with
    | none => exact (show False from r).elim
    | some _ => rfl
theorem RelO.getD {o : Option V} {u : Option Value} {d : V} {d' : Value} (r : RelO o u) (rd : RelV d d') : RelV (o.getD d) (u.getD d') := by
  cases o with
  | none => cases u with
    | none => exact rd
    | some _ => exact (show False from r).elim
  | some _ => cases u with
    | none => exact (show False from r).elim
    | some _ => exact r
theorem KV.val {kvs : List (κ × V)} {vs : List (κ × Value)} (r : KV kvs vs) (k : κ) : RelO (valV kvs k) (valueAt vs k) := by
  unfold KV at r
  induction r with
  | nil => exact True.intro
  | @cons p q ps qs h t ih =>
    obtain ⟨h1, h2⟩ := h
    by_cases e : p.1 = k
    · have e' : q.1 = k := h1.symm.trans e
      have b : valueAt (q :: qs) k = some q.2 := by simp [valueAt, List.find?_cons, e']
      rw [valV_pos e, b]; exact h2
    · have e' : ¬ q.1 = k := fun z => e (h1.trans z)
      have b : valueAt (q :: qs) k = valueAt qs k := by simp [valueAt, List.find?_cons, e']
      rw [valV_neg e, b]; exact ih
theorem KV.any {kvs : List (κ × V)} {vs : List (κ × Value)} (r : KV kvs vs) (k : κ) : (kvs.any fun kv => decide (kv.1 = k)) = vs.any fun kv => decide (kv.1 = k) := by
  unfold KV at r
  induction r with
  | nil => rfl
  | cons h t ih => rw [List.any_cons, List.any_cons, ih, h.1]
theorem KV.repl {kvs : List (κ × V)} {vs : List (κ × Value)} (r : KV kvs vs) (k : κ) {y : V} {u : Value} (ry : RelV y u) :
    KV (kvs.map fun kv => if kv.1 = k then (kv.1, y) else kv) (vs.map fun kv => if kv.1 = k then (kv.1, u) else kv) := by
  unfold KV at r ⊢
  induction r with
  | nil => exact .nil
  | @cons p q ps qs h t ih =>
    rw [List.map_cons, List.map_cons]
    refine .cons ?_ ih
    obtain ⟨h1, h2⟩ := h
    by_cases e : p.1 = k
    · rw [if_pos e, if_pos (h1.symm.trans e)]; exact ⟨h1, ry⟩
    · rw [if_neg e, if_neg (fun z => e (h1.trans z))]; exact ⟨h1, h2⟩
theorem KV.put {kvs : List (κ × V)} {vs : List (κ × Value)} (r : KV kvs vs) (k : κ) {y : V} {u : Value} (ry : RelV y u) : KV (putK kvs k y) (stored vs k u) := by
  unfold putK stored
  rw [r.any k]
  by_cases e : (vs.any fun kv => decide (kv.1 = k)) = true
  · rw [if_pos e, if_pos e]; exact r.repl k ry
  · rw [if_neg e, if_neg e]; exact Paired.snoc r ⟨rfl, ry⟩
theorem KV.drop {kvs : List (κ × V)} {vs : List (κ × Value)} (r : KV kvs vs) (k : κ) : KV (dropK kvs k) (without vs k) := by
  unfold KV at r ⊢
  unfold dropK without
  induction r with
  | nil => exact .nil
  | @cons p q ps qs h t ih =>
    obtain ⟨h1, h2⟩ := h
    rw [List.filter_cons, List.filter_cons]
    by_cases e : p.1 = k
    · have a : ¬ decide (p.1 ≠ k) = true := by simp [e]
      have b : ¬ decide (q.1 ≠ k) = true := by simp [h1.symm.trans e]
      rw [if_neg a, if_neg b]; exact ih
    · have e' : ¬ q.1 = k := fun z => e (h1.trans z)
      have a : decide (p.1 ≠ k) = true := by simp [e]
      have b : decide (q.1 ≠ k) = true := by simp [e']
      rw [if_pos a, if_pos b]; exact .cons ⟨h1, h2⟩ ih
theorem KV.keys {kvs : List (κ × V)} {vs : List (κ × Value)} (r : KV kvs vs) : kvs.map (·.1) = vs.map (·.1) := by
  unfold KV at r
  induction r with
  | nil => rfl
  | cons h t ih => rw [List.map_cons, List.map_cons, ih, h.1]
theorem KV.length {kvs : List (κ × V)} {vs : List (κ × Value)} (r : KV kvs vs) : kvs.length = vs.length := Paired.length r
end
theorem kV_is {P : Program} {w : World} {k : Key} {u : Value} (r : RelV (kV k) u) : (mixKind P w).is k u = true := by
  cases k with
  | inl i => obtain ⟨t, e⟩ := (show ∃ t, u = Value.int i t from r); subst e; exact mixKind_int P w i t
  | inr x => obtain ⟨t, e⟩ := (show ∃ t, u = Value.str x t from r); subst e; exact mixKind_str P w x t
theorem items_are {P : Program} {w : World} : ∀ {ks : List Key} {us : List Value}, Vals (ks.map kV) us → ItemsAre (mixKind P w) ks us
  | [], _, r => by rw [List.map_nil] at r; cases r; exact .nil
  | k :: ks, _, r => by
    rw [List.map_cons] at r
    cases r with
    | cons h t => exact .cons (kV_is h) (items_are t)
abbrev KT (H : Hp) : List (List Key × V) → List (List Key × Addr × Value) → Prop := Paired fun p q => p.1 = q.1 ∧ H q.2.1 = some (.tup (p.1.map kV)) ∧ RelV p.2 q.2.2
theorem KT.val {H : Hp} {kvs : List (List Key × V)} {xs : List (List Key × Addr × Value)} (r : KT H kvs xs) (k : List Key) : RelO (valV kvs k) ((atKey xs k).map (·.2)) := by
  induction r with
  | nil => exact True.intro
  | @cons p q ps qs h t ih =>
    obtain ⟨h1, _, h2⟩ := h
    by_cases e : p.1 = k
    · have e' : q.1 = k := h1.symm.trans e
      have b : atKey (q :: qs) k = some q.2 := by simp [atKey, List.find?_cons, e']
      rw [valV_pos e, b]; exact h2
    · have e' : ¬ q.1 = k := fun z => e (h1.trans z)
      have b : atKey (q :: qs) k = atKey qs k := by simp [atKey, List.find?_cons, e']
      rw [valV_neg e, b]; exact ih
theorem KT.repl {H : Hp} {kvs : List (List Key × V)} {xs : List (List Key × Addr × Value)} (r : KT H kvs xs) (k : List Key) {y : V} {u : Value} (ry : RelV y u) :
    KT H (kvs.map fun kv => if kv.1 = k then (kv.1, y) else kv) (xs.map (putAt k u)) := by
  induction r with
  | nil => exact .nil
  | @cons p q ps qs h t ih =>
    rw [List.map_cons, List.map_cons]
    refine .cons ?_ ih
    obtain ⟨h1, h2, h3⟩ := h
    unfold putAt
    by_cases e : p.1 = k
    · rw [if_pos e, if_pos (h1.symm.trans e)]; exact ⟨h1, h2, ry⟩
    · rw [if_neg e, if_neg (fun z => e (h1.trans z))]; exact ⟨h1, h2, h3⟩
theorem KT.put {H : Hp} {kvs : List (List Key × V)} {xs : List (List Key × Addr × Value)} (r : KT H kvs xs) (k : List Key) {b : Addr} {y : V} {u : Value} (hb : H b = some (.tup (k.map kV))) (ry : RelV y u) :
    KT H (putK kvs k y) (storedH xs k b u) := by
  have e : (kvs.any fun kv => decide (kv.1 = k)) = (atKey xs k).isSome := by
    rw [valV_any, (r.val k).isSome_eq, Option.isSome_map]
  unfold putK storedH
  rw [e]
  by_cases q : (atKey xs k).isSome = true
  · rw [if_pos q, if_pos q]; exact r.repl k ry
  · rw [if_neg q, if_neg q]; exact Paired.snoc r ⟨rfl, hb, ry⟩
theorem KT.keeps {H H' : Hp} {kvs : List (List Key × V)} {xs : List (List Key × Addr × Value)} (r : KT H kvs xs) (ht : ∀ b ys, H b = some (.tup ys) → H' b = some (.tup ys)) : KT H' kvs xs :=
  Paired.mapP r fun _ _ z => ⟨z.1, ht _ _ z.2.1, z.2.2⟩
section
variable {P : Program} {w : World} {H : Hp} {h : Heap} {a : Addr}
theorem rd_of {u : HO} (ok : HOk P w H h) (e : Rd H a u) : ObjOk P w H h a u := e.ok ok
theorem dk_rd {kvs : List (Key × V)} (ok : HOk P w H h) (e : Rd H a (.dK kvs)) : kvs.length ≤ sizeLine ∧ (a == sysModules) = false ∧ ∃ vs, KV kvs vs ∧ h.DictOf (mixKind P w) a vs :=
  show ObjOk P w H h a (.dK kvs) from rd_of ok e
theorem dk_of {kvs : List (Key × V)} (ok : HOk P w H h) (e : H a = some (.dK kvs)) : kvs.length ≤ sizeLine ∧ (a == sysModules) = false ∧ ∃ vs, KV kvs vs ∧ h.DictOf (mixKind P w) a vs := dk_rd ok (.inl e)
theorem key_of {ks : List Key} (ok : HOk P w H h) (e : H a = some (.tup (ks.map kV))) : (tupleKind (mixKind P w)).is h ks a := by
  obtain ⟨_, its, r, o, h1, h2, n, h3⟩ := (show ObjOk P w H h a (.tup (ks.map kV)) from ok a _ e)
  exact ⟨o, its.toArray, n, h1, h2, h3, by simpa using items_are r⟩
theorem dt_rd {kvs : List (List Key × V)} (ok : HOk P w H h) (e : Rd H a (.dT kvs)) : kvs.length ≤ sizeLine ∧ (a == sysModules) = false ∧
    ∃ xs, KT H kvs xs ∧ h.DictOfH (tupleKind (mixKind P w)) a xs := by
  obtain ⟨z, y, xs, r, o, es, ep, h1, h2, h3, h4, h5⟩ := (show ObjOk P w H h a (.dT kvs) from rd_of ok e)
  refine ⟨z, y, xs, r, o, es, ep, h1, h2, h3, h4, fun x hx => ?_, h5⟩
  have all : ∀ {l : List (List Key × V)} {m : List (List Key × Addr × Value)}, KT H l m → ∀ x ∈ m, (tupleKind (mixKind P w)).is h x.1 x.2.1 := by
    intro l m q
    induction q with
    | nil => intro x hx; exact nomatch hx
    | @cons p q ps qs hq t ih =>
      intro x hx
      rcases List.mem_cons.mp hx with e | hx
      · subst e
        exact key_of ok (by rw [← hq.1]; exact hq.2.1)
      · exact ih x hx
  exact all r x hx
theorem dt_of {kvs : List (List Key × V)} (ok : HOk P w H h) (e : H a = some (.dT kvs)) : kvs.length ≤ sizeLine ∧ (a == sysModules) = false ∧
    ∃ xs, KT H kvs xs ∧ h.DictOfH (tupleKind (mixKind P w)) a xs := dt_rd ok (.inl e)
end
def DGet (H : Hp) (a : Addr) (y : V) (r : Option V) : Prop :=
  (∃ kvs k, Rd H a (.dK kvs) ∧ y = kV k ∧ r = valV kvs k) ∨ ∃ kvs k b, Rd H a (.dT kvs) ∧ y = .ref b ∧ H b = some (.tup (k.map kV)) ∧ r = valV kvs k
def DPut (H : Hp) (a : Addr) (y v : V) (H' : Hp) : Prop :=
  (∃ kvs k, H a = some (.dK kvs) ∧ y = kV k ∧ kvs.length < sizeLine ∧ H' = upd H a (.dK (putK kvs k v))) ∨
  ∃ kvs k b, H a = some (.dT kvs) ∧ y = .ref b ∧ H b = some (.tup (k.map kV)) ∧ kvs.length < sizeLine ∧ H' = upd H a (.dT (putK kvs k v))
theorem DGet.k {H : Hp} {a : Addr} {kvs : List (Key × V)} {k : Key} (e : H a = some (.dK kvs)) : DGet H a (kV k) (valV kvs k) := .inl ⟨kvs, k, .inl e, rfl, rfl⟩
theorem DGet.t {H : Hp} {a b : Addr} {kvs : List (List Key × V)} {k : List Key} (e : H a = some (.dT kvs)) (eb : H b = some (.tup (k.map kV))) : DGet H a (.ref b) (valV kvs k) := .inr ⟨kvs, k, b, .inl e, rfl, eb, rfl⟩
theorem DPut.k {H : Hp} {a : Addr} {kvs : List (Key × V)} {k : Key} {v : V} (e : H a = some (.dK kvs)) (hl : kvs.length < sizeLine) : DPut H a (kV k) v (upd H a (.dK (putK kvs k v))) := .inl ⟨kvs, k, e, rfl, hl, rfl⟩
theorem DPut.t {H : Hp} {a b : Addr} {kvs : List (List Key × V)} {k : List Key} {v : V} (e : H a = some (.dT kvs)) (eb : H b = some (.tup (k.map kV))) (hl : kvs.length < sizeLine) :
    DPut H a (.ref b) v (upd H a (.dT (putK kvs k v))) := .inr ⟨kvs, k, b, e, rfl, eb, hl, rfl⟩
section
variable {X : Cx} {pins : List (Addr × Obj)} {σ : St} {H : Hp} {s : Shared} {a : Addr} {y v : V} {u r : Value} {o : Option V} {A : Around} {E : Value → Shared → Prop}
theorem Inv.big (I : Inv X pins σ H s) : sysModules < s.heap.objs.size := by
  have h : mainGlobals < s.heap.objs.size := (I.mod.glob.keeps I.bk).lt
  exact Nat.lt_trans (by decide) h
theorem d_write {h' : Heap} {t' : Nat} {ob : HO} (I : Inv X pins σ H s) (mu : Mut (H a)) (hs : Heap.SameBut a s.heap h') (he : ∃ q, h'.get? a = some q) (new : ObjOk X.prog X.w (upd H a ob) h' a ob) :
    Inv X pins σ (upd H a ob) { s with heap := h', toks := t' } :=
  I.write (x := a) (e := a) mu (.inl rfl) (fun b q hb z => (hs.2 b hb).trans z) he new
theorem dk_new {P : Program} {w : World} {H' : Hp} {h' : Heap} {kvs : List (Key × V)} {vs : List (Key × Value)} (z : kvs.length ≤ sizeLine) (hd : (a == sysModules) = false) (rel : KV kvs vs) (dd : h'.DictOf (mixKind P w) a vs) :
    ObjOk P w H' h' a (.dK kvs) := ⟨z, hd, vs, rel, dd⟩
theorem d_setItem {H' : Hp} {Q : Unit → Shared → Prop} (hu : A.units + 1 < cLine) (I : Inv X pins σ H s) (g : DPut H a y v H') (ry : RelV y u) (rv : RelV v r) (h : ∀ s', Inv X pins σ H' s' → Q () s') :
    wpAny (model X.prog X.w) A (setItem (.ref a) u r) Q E s := by
  rcases g with ⟨kvs, k, e, ey, l, eH⟩ | ⟨kvs, k, b, e, ey, eb, l, eH⟩
  · subst ey eH
    obtain ⟨z, hd, vs, rel, dd⟩ := dk_of I.hok e
    have hz : vs.length ≤ sizeLine := by rw [← rel.length]; exact z
    have hl : (putK kvs k v).length ≤ sizeLine := by have := length_putK kvs k v; omega
    refine wpAny_setItem_pairs (hsz := hz) (kV_is ry) dd fun h' dd' hs => h _ ?_
    have he : ∃ q, h'.get? a = some q := let ⟨q, _, _, hq, _⟩ := dd'; ⟨q, hq⟩
    exact d_write I (by rw [e]; exact True.intro) hs he (dk_new hl hd (rel.put k rv) dd')
  · subst ey eH
    cases (show u = Value.ref b from ry)
    obtain ⟨z, hd, xs, rel, dd⟩ := dt_of I.hok e
    have hz : xs.length ≤ sizeLine := by rw [← Paired.length rel]; exact z
    have hl : (putK kvs k v).length ≤ sizeLine := by have := length_putK kvs k v; omega
    refine wpAny_setItem_heap (hsz := hz) (tupleKind_room_in1 hu) (key_of I.hok eb) dd fun h' dd' hs => h _ ?_
    obtain ⟨q, es, ep, hq, h2, h3, h4, _, h5⟩ := dd'
    refine d_write I (by rw [e]; exact True.intro) hs ⟨q, hq⟩ ⟨hl, hd, _, (rel.put k eb rv).keeps fun c ys ec => ?_, q, es, ep, hq, h2, h3, h4, h5⟩
    rw [upd_ne (ne_of ec e (fun z => nomatch z))]
    exact ec
end
section
variable {X : Cx} {pins : List (Addr × Obj)} {σ : St} {H : Hp} {s : Shared} {a : Addr} {kvs : List (Key × V)} {k : Key} {u : Value} {A : Around} {E : Value → Shared → Prop}
end
def sDPut (td ty tv : TE) : TS := fun D σ H => tv σ H fun v H1 => td σ H1 fun x H2 => ty σ H2 fun y H3 => ∃ a H4, x = .ref a ∧ DPut H3 a y v H4 ∧ D.nx σ H4
section
variable {X : Cx} {o i e value : Expr} {pos pos' tpos : Pos} {td ty tv : TE}
theorem ps_dput (hu : X.A.units + 1 < cLine) (ho : PE X o td) (hi : PE X i ty) (hv : PE X value tv) (hs : swapsWith value (some (.Subscript o i pos')) pos.line X.env = pure false) :
    PS X (.Assign [.Subscript o i pos'] value pos) (sDPut td ty tv) := by
  intro pins s σ H D I h
  refine wpAny_Assign_Subscript (thn (hv pins s σ H _ I h) fun r s1 ⟨v, H1, I1, rv, q1⟩ => thn (ho pins s1 σ H1 _ I1 q1) fun u s2 ⟨x, H2, I2, rx, q2⟩ => thn (hi pins s2 σ H2 _ I2 q2) fun iv s3 ⟨y, H3, I3, ry, a, H4, ex, g, q3⟩ => ?_) hs
  subst ex
  obtain rfl : u = Value.ref a := rx
  exact d_setItem hu I3 g ry rv fun s4 I4 => ⟨σ, H4, I4, q3⟩
end
theorem dk_empty {P : Program} {w : World} {H : Hp} (h : Heap) (hb : sysModules < h.objs.size) : ObjOk P w H (h.push { cls := .type "dict", data := .dict #[] }) h.objs.size (.dK []) :=
  ⟨Nat.zero_le _, beq_eq_false_iff_ne.mpr (Ne.symm (Nat.ne_of_lt hb)), [], .nil, Heap.DictOf.new h⟩
theorem dt_empty {P : Program} {w : World} {H : Hp} (h : Heap) (hb : sysModules < h.objs.size) : ObjOk P w H (h.push { cls := .type "dict", data := .dict #[] }) h.objs.size (.dT []) :=
  ⟨Nat.zero_le _, beq_eq_false_iff_ne.mpr (Ne.symm (Nat.ne_of_lt hb)), [], .nil, _, #[], 0, Heap.get?_push_size _ rfl, ⟨rfl, rfl, rfl⟩, rfl, rfl, List.nodup_nil⟩
def tDNewT : TE := fun _ H Q => ∀ p, H p = none → Q (.ref p) (upd H p (.dT []))
section
variable {X : Cx} {pos : Pos}
theorem pe_dnewT : PE X (.Dict [] [] pos) tDNewT := fun pins s σ H Q I h =>
  wpAny_Dict_empty ⟨.ref s.heap.objs.size, _, I.laid (a := s.heap.objs.size) (o := .dT []) (t' := s.toks) (fun _ _ q => Heap.get?_push_of_some _ q) (Nat.le_refl _) (dt_empty s.heap I.big), rfl, h _ (I.hok.fresh (Nat.le_refl _))⟩
end
def tPairs : List (TE × TE) → St → Hp → (List (V × V) → Hp → Prop) → Prop
  | [], _, H, Q => Q [] H
  | (tk, tv) :: r, σ, H, Q => tk σ H fun x H1 => tv σ H1 fun y H2 => tPairs r σ H2 fun ps H3 => Q ((x, y) :: ps) H3
abbrev VV : List (V × V) → List (Value × Value) → Prop := Paired fun p q => RelV p.1 q.1 ∧ RelV p.2 q.2
def PPs (X : Cx) (pos : Pos) (keys : List (Option Expr)) (values : List Expr) (trs : List (TE × TE)) : Prop :=
  ∀ (pins : List (Addr × Obj)) (s : Shared) (σ : St) (H : Hp) (Q : List (V × V) → Hp → Prop), Inv X pins σ H s → tPairs trs σ H Q →
    wpAny (model X.prog X.w) X.A (evalPairs (pairTrees keys values X.env pos)) (fun vs s' => ∃ ps H', Inv X pins σ H' s' ∧ VV ps vs ∧ Q ps H') X.xe s
theorem pps_nil {X : Cx} {pos : Pos} : PPs X pos [] [] [] := fun pins s σ H Q I h => pairTrees_nil_walk ⟨[], H, I, .nil, h⟩
theorem pps_cons {X : Cx} {pos : Pos} {k v : Expr} {ks : List (Option Expr)} {vs : List Expr} {tk tv : TE} {trs : List (TE × TE)} (hk : PE X k tk) (hv : PE X v tv) (hr : PPs X pos ks vs trs) :
    PPs X pos (some k :: ks) (v :: vs) ((tk, tv) :: trs) := fun pins s σ H Q I h =>
  pairTrees_cons_walk (thn (hk pins s σ H _ I h) fun u s1 ⟨x, H1, I1, rx, q1⟩ => thn (hv pins s1 σ H1 _ I1 q1) fun w2 s2 ⟨y, H2, I2, ry, q2⟩ =>
    thn (hr pins s2 σ H2 _ I2 q2) fun ws s3 ⟨ps, H3, I3, rel, q3⟩ => ⟨(x, y) :: ps, H3, I3, .cons ⟨rx, ry⟩ rel, q3⟩)
def mergeK (kvs more : List (Key × V)) : List (Key × V) := more.foldl (fun acc kv => putK acc kv.1 kv.2) kvs
theorem KV.merge : ∀ {more : List (Key × V)} {rs : List (Key × Value)} {kvs : List (Key × V)} {vs : List (Key × Value)}, KV more rs → KV kvs vs → KV (mergeK kvs more) (merged vs rs) := by
  intro more rs kvs vs r
  unfold KV at r
  induction r generalizing kvs vs with
  | nil => intro q; exact q
  | @cons p q ps qs h t ih =>
    intro r0
    have e : KV (putK kvs p.1 p.2) (stored vs q.1 q.2) := by
      have := r0.put p.1 h.2
      rw [← h.1]; exact this
    exact ih e
theorem length_mergeK : ∀ (more kvs : List (Key × V)), (mergeK kvs more).length ≤ kvs.length + more.length
  | [], kvs => by show kvs.length ≤ kvs.length + 0; omega
  | p :: r, kvs => by
    have h1 := length_mergeK r (putK kvs p.1 p.2)
    have h2 := length_putK kvs p.1 p.2
    show (mergeK (putK kvs p.1 p.2) r).length ≤ _
    rw [List.length_cons]; omega
theorem carries_of {P : Program} {w : World} : ∀ {kvs : List (Key × V)} {ws : List (Value × Value)}, VV (kvs.map fun kv => (kV kv.1, kv.2)) ws → ∃ rs, Carries (mixKind P w) ws rs ∧ KV kvs rs
  | [], _, r => by rw [List.map_nil] at r; cases r; exact ⟨[], True.intro, .nil⟩
  | p :: kvs, _, r => by
    rw [List.map_cons] at r
    cases r with
    | @cons a b as bs h t =>
      obtain ⟨rs, c, q⟩ := carries_of (P := P) (w := w) t
      obtain ⟨b1, b2⟩ := b
      exact ⟨(p.1, b2) :: rs, ⟨kV_is h.1, rfl, c⟩, .cons ⟨rfl, h.2⟩ q⟩
def tDisp (trs : List (TE × TE)) : TE := fun σ H Q => ∀ p, H p = none → tPairs trs σ (upd H p (.dK [])) fun ps H2 => H2 p = some (.dK []) ∧ ∃ kvs : List (Key × V), ps = kvs.map (fun kv => (kV kv.1, kv.2)) ∧ kvs.length ≤ 15 ∧ Q (.ref p) (upd H2 p (.dK (mergeK [] kvs)))
theorem pe_disp {X : Cx} {pos : Pos} {keys : List (Option Expr)} {values : List Expr} {trs : List (TE × TE)} (h : PPs X pos keys values trs) (hall : keys.all (·.isSome) = true) (hl : keys.length = values.length) (h0 : keys ≠ [])
    (h15 : keys.length ≤ 15) : PE X (.Dict keys values pos) (tDisp trs) := by
  intro pins s σ H Q I q
  have hn := I.hok.fresh (Nat.le_refl s.heap.objs.size)
  have I1 := I.laid (a := s.heap.objs.size) (o := .dK []) (h' := s.heap.push { cls := .type "dict", data := .dict #[] }) (t' := s.toks) (fun _ _ q => Heap.get?_push_of_some _ q) (Nat.le_refl _) (dk_empty s.heap I.big)
  refine wpAny_Dict_walk (knd := mixKind X.prog X.w) hall hl h0 h15 (thn (h pins _ σ _ _ I1 (q _ hn)) fun ws s2 ⟨ps, H2, I2, rel, e, kvs, ep, lk, q2⟩ => ?_)
  subst ep
  obtain ⟨rs, c, rk⟩ := carries_of (P := X.prog) (w := X.w) rel
  obtain ⟨z, hd, vs0, r0, dd⟩ := dk_of I2.hok e
  cases r0
  refine ⟨rs, c, dd, fun h' dd' hs => ⟨.ref s.heap.objs.size, _, ?_, rfl, q2⟩⟩
  have hz : (mergeK [] kvs).length ≤ sizeLine := by
    have h1 := length_mergeK kvs []
    rw [List.length_nil] at h1
    rw [sizeLine_eq]; omega
  have he : ∃ q, h'.get? s.heap.objs.size = some q := let ⟨q, _, _, hq, _⟩ := dd'; ⟨q, hq⟩
  exact d_write I2 (by rw [e]; exact True.intro) hs he (dk_new hz hd (rk.merge .nil) dd')
structure M1 (X : Cx) (o : Expr) (m : Str) (apos : Pos) (e : Expr) (cpos : Pos) : Prop where
  base : attributeBase o m X.env (eval o X.env) = eval o X.env
  few : ((backTo cpos (starEach [e] X.env)).all (fun x => !x.1) && (backToKw cpos (keywordEach [] X.env)).all (fun x => x.1.isSome)
    && decide (([e] : List Expr).length + ([] : List Keyword).length + (if ([] : List Keyword).isEmpty then 0 else 1) < 30)) = true
  line : (apos.endLine == cpos.line) = true
  trees : backTo cpos (starEach [e] X.env) = [(false, eval e X.env)]
structure M2 (X : Cx) (o : Expr) (m : Str) (apos : Pos) (e f : Expr) (cpos : Pos) : Prop where
  base : attributeBase o m X.env (eval o X.env) = eval o X.env
  few : ((backTo cpos (starEach [e, f] X.env)).all (fun x => !x.1) && (backToKw cpos (keywordEach [] X.env)).all (fun x => x.1.isSome)
    && decide (([e, f] : List Expr).length + ([] : List Keyword).length + (if ([] : List Keyword).isEmpty then 0 else 1) < 30)) = true
  line : (apos.endLine == cpos.line) = true
  trees : backTo cpos (starEach [e, f] X.env) = [(false, eval e X.env), (false, eval f X.env)]
def IsD (H : Hp) (a : Addr) : Prop := (∃ kvs, Rd H a (.dK kvs)) ∨ ∃ kvs, Rd H a (.dT kvs)
theorem isD_at {X : Cx} {pins : List (Addr × Obj)} {σ : St} {H : Hp} {s : Shared} {a : Addr} (I : Inv X pins σ H s) (d : IsD H a) :
    s.TypeIs (.ref a) "dict" ∧ (∀ b, Value.ref a = .ref b → ∃ ob, s.heap.get? b = some ob ∧ ob.dict = none) ∧ (a == sysModules) = false := by
  rcases d with ⟨kvs, e⟩ | ⟨kvs, e⟩
  · obtain ⟨_, hd, vs, _, dd⟩ := dk_rd I.hok e
    refine ⟨dd.typeIs, fun b q => ?_, hd⟩
    cases q
    obtain ⟨ob, _, _, h1, h2, _⟩ := dd
    exact ⟨ob, h1, h2.2.1⟩
  · obtain ⟨_, hd, xs, _, dd⟩ := dt_rd I.hok e
    refine ⟨dd.typeIs, fun b q => ?_, hd⟩
    cases q
    obtain ⟨ob, _, _, h1, h2, _⟩ := dd
    exact ⟨ob, h1, h2.2.1⟩
section
variable {X : Cx} {pins : List (Addr × Obj)} {σ : St} {H : Hp} {s : Shared} {a : Addr} {y d : V} {u r : Value} {o : Option V} {A : Around} {E : Value → Shared → Prop}
theorem d_get2 {Q : Value → Shared → Prop} (hu : A.units + 1 < cLine) (I : Inv X pins σ H s) (g : DGet H a y o) (ry : RelV y u) (rd : RelV d r) (h : ∀ w' s', Inv X pins σ H s' → RelV (o.getD d) w' → Q w' s') :
    wpAny (model X.prog X.w) A (call (.builtin "dict.get") [.ref a, u, r]) Q E s := by
  rcases g with ⟨kvs, k, e, ey, l⟩ | ⟨kvs, k, b, e, ey, eb, l⟩
  · subst ey
    obtain ⟨z, hd, vs, rel, dd⟩ := dk_rd I.hok e
    refine call_meetsIn PySem.F.slot_dict_get dd.typeIs PySem.F.entry_dict_get (PySem.F.args_dict_get_3 _ _ _) (meets_dict_get_default (mixKind X.prog X.w) a (kV_is ry) hd r) ⟨_, dd.mapOf, h _ _ (I.tok _) ?_⟩
    rw [l]
    exact (rel.val k).getD rd
  · subst ey
    cases (show u = Value.ref b from ry)
    obtain ⟨z, hd, xs, rel, dd⟩ := dt_rd I.hok e
    refine call_meetsIn PySem.F.slot_dict_get dd.typeIs PySem.F.entry_dict_get (PySem.F.args_dict_get_3 _ _ _) (meetsH_dict_get_default (tupleKind (mixKind X.prog X.w)) a b hd r) ⟨tupleKind_room_in1 hu, k, xs, key_of I.hok eb, dd, h _ _ (I.tok _) ?_⟩
    rw [l]
    exact (rel.val k).getD rd
end
def tDGet2 (td ty tx : TE) : TE := fun σ H Q => td σ H fun x H1 => ∃ a, x = .ref a ∧ IsD H1 a ∧ ty σ H1 fun y H2 => tx σ H2 fun z H3 => ∃ o, DGet H3 a y o ∧ Q (o.getD z) H3
section
variable {X : Cx} {o e f : Expr} {apos cpos : Pos} {td ty tx : TE}
theorem pe_dget2 (hu : X.A.units + 1 < cLine) (ho : PE X o td) (he : PE X e ty) (hf : PE X f tx) (m : M2 X o "get" apos e f cpos) : PE X (.Call (.Attribute o "get" apos) [e, f] [] cpos) (tDGet2 td ty tx) := by
  intro pins s σ H Q I h
  refine wpAny_Call_method m.base m.few m.line PySem.F.plainAttrs_dict PySem.F.slot_dict_get PySem.F.type_dict_get (thn (ho pins s σ H _ I h) fun u s1 ⟨x, H1, I1, rx, a, ex, d, q1⟩ => ?_)
  subst ex
  obtain rfl : u = Value.ref a := rx
  obtain ⟨t1, t2, _⟩ := isD_at I1 d
  refine ⟨t1, t2, ?_⟩
  rw [m.trees]
  refine Calls.callWith_builtin rfl (Calls.evalArgs_plain (Calls.spliced_cons (thn (he pins s1 σ H1 _ I1 q1) fun iv s2 ⟨y, H2, I2, ry, q2⟩ =>
    Calls.spliced_cons (thn (hf pins s2 σ H2 _ I2 q2) fun fv s3 ⟨z, H3, I3, rz, ov, g, q3⟩ => Calls.spliced_nil ?_))))
  exact d_get2 hu I3 g ry rz fun w' s4 I4 rw' => ⟨_, H3, I4, rw', q3⟩
end
section
variable {X : Cx} {pins : List (Addr × Obj)} {σ : St} {H : Hp} {s : Shared} {a : Addr} {kvs : List (Key × V)} {A : Around} {E : Value → Shared → Prop}
end
section
variable {X : Cx} {pins : List (Addr × Obj)} {σ : St} {H : Hp} {s : Shared} {a : Addr} {y : V} {u : Value} {A : Around} {E : Value → Shared → Prop}
end
end L2
set_option maxRecDepth 100000
set_option maxHeartbeats 1000000
namespace LS
open PySem
def Lo (l : List Nat) (j r : Nat) : Prop := r ≤ l.length ∧ (∀ (k v : Nat), k < r → l[k]? = some v → v < j) ∧ ∀ (k v : Nat), r ≤ k → l[k]? = some v → j ≤ v
theorem below_go {xs : Array Nat} {j : Nat} (hp : xs.toList.Pairwise (· < ·)) : ∀ (fuel lo hi : Nat), lo ≤ hi → hi ≤ xs.size → hi - lo ≤ fuel →
    (∀ (k v : Nat), k < lo → xs.toList[k]? = some v → v < j) → (∀ (k v : Nat), hi ≤ k → xs.toList[k]? = some v → j ≤ v) → Lo xs.toList j (SetTable.below.go xs j fuel lo hi) := by
  intro fuel
  induction fuel with
  | zero =>
    intro lo hi h1 h2 h3 h4 h5
    unfold SetTable.below.go
    exact ⟨by simp; omega, h4, fun k v hk => h5 k v (by omega)⟩
  | succ fuel ih =>
    intro lo hi h1 h2 h3 h4 h5
    unfold SetTable.below.go
    by_cases c : lo < hi
    · rw [if_pos c]
      have hm : (lo + hi) / 2 < xs.size := by omega
      have eg : xs.toList[(lo + hi) / 2]? = some (xs.getD ((lo + hi) / 2) j) := by
        rw [Array.getD_eq_getD_getElem?, Array.getElem?_eq_getElem hm]
        simp [hm]
      have mono : ∀ (a b u v : Nat), a < b → xs.toList[a]? = some u → xs.toList[b]? = some v → u < v := fun a b u v hab ha hb => by
        obtain ⟨la, ea⟩ := List.getElem?_eq_some_iff.mp ha
        obtain ⟨lb, eb⟩ := List.getElem?_eq_some_iff.mp hb
        have := List.pairwise_iff_getElem.mp hp a b la lb hab
        rw [ea, eb] at this
        exact this
      dsimp only
      by_cases d : xs.getD ((lo + hi) / 2) j < j
      · rw [if_pos d]
        refine ih _ _ (by omega) h2 (by omega) (fun k v hk e => ?_) h5
        by_cases kk : k = (lo + hi) / 2
        · subst kk; rw [eg] at e; cases e; exact d
        · exact Nat.lt_trans (mono _ _ _ _ (by omega) e eg) d
      · rw [if_neg d]
        refine ih _ _ (by omega) (by omega) (by omega) h4 (fun k v hk e => ?_)
        by_cases kk : k = (lo + hi) / 2
        · subst kk; rw [eg] at e; cases e; omega
        · have := mono _ _ _ _ (show (lo + hi) / 2 < k by omega) eg e
          omega
    · rw [if_neg c]
      exact ⟨by simp; omega, h4, fun k v hk => h5 k v (by omega)⟩
theorem below_lo {xs : Array Nat} (hp : xs.toList.Pairwise (· < ·)) (j : Nat) : Lo xs.toList j (SetTable.below xs j) := by
  unfold SetTable.below
  refine below_go hp _ _ _ (Nat.zero_le _) (Nat.le_refl _) (by omega) (fun k v hk => absurd hk (by omega)) (fun k v hk e => ?_)
  have := (List.getElem?_eq_some_iff.mp e).1
  simp at this
  omega
theorem below_at {xs : Array Nat} (hp : xs.toList.Pairwise (· < ·)) {i j : Nat} (h : xs.toList[i]? = some j) : SetTable.below xs j = i := by
  obtain ⟨h1, h2, h3⟩ := below_lo hp j
  rcases Nat.lt_trichotomy (SetTable.below xs j) i with c | c | c
  · -- the one at r is at least j, the one at i above it
    obtain ⟨li, ei⟩ := List.getElem?_eq_some_iff.mp h
    have lr : SetTable.below xs j < xs.toList.length := by omega
    have := h3 _ _ (Nat.le_refl _) (List.getElem?_eq_getElem lr)
    have q := List.pairwise_iff_getElem.mp hp _ _ lr li c
    omega
  · exact c
  · exact absurd (h2 _ _ c h) (by omega)
theorem slot_live {t : SetTable} (hp : t.place.toList.Pairwise (· < ·)) {i j : Nat} (h : t.place.toList[i]? = some j) : t.slot j = .live i := by
  unfold SetTable.slot
  dsimp only
  rw [below_at hp h]
  have : t.place[i]? = some j := by rw [← h]; simp
  rw [this]
  simp
theorem slot_none {t : SetTable} (hd : t.dummies = #[]) {j : Nat} (h : j ∉ t.place.toList) : t.slot j = .empty := by
  unfold SetTable.slot
  dsimp only
  have a : (t.place[SetTable.below t.place j]? == some j) = false := by
    rw [Bool.eq_false_iff]
    intro e
    have e := eq_of_beq e
    exact h (List.mem_of_getElem? (i := SetTable.below t.place j) (by rw [← e]; simp))
  rw [a, hd]
  simp [SetTable.has]
theorem insertAt_list {α : Type} (xs : Array α) (p : Nat) (x : α) (hp : p ≤ xs.size) : (SetTable.insertAt xs p x).toList = xs.toList.take p ++ x :: xs.toList.drop p := by
  unfold SetTable.insertAt
  simp [Array.toList_extract]; exact List.take_of_length_le (by simp)
theorem pairwise_ins {l : List Nat} {j r : Nat} (hp : l.Pairwise (· < ·)) (lo : Lo l j r) (hj : j ∉ l) : (l.take r ++ j :: l.drop r).Pairwise (· < ·) := by
  obtain ⟨h1, h2, h3⟩ := lo
  have a : ∀ x ∈ l.take r, x < j := fun x hx => by
    obtain ⟨k, hk⟩ := List.getElem?_of_mem hx
    rw [List.getElem?_take] at hk
    split at hk
    · exact h2 k x (by assumption) hk
    · cases hk
  have b : ∀ x ∈ l.drop r, j < x := fun x hx => by
    obtain ⟨k, hk⟩ := List.getElem?_of_mem hx
    rw [List.getElem?_drop] at hk
    have := h3 _ x (by omega) hk
    rcases Nat.lt_or_eq_of_le this with z | z
    · exact z
    · exact absurd (by rw [z]; exact List.mem_of_getElem? hk) hj
  rw [List.pairwise_append]
  refine ⟨hp.sublist (List.take_sublist _ _), List.pairwise_cons.mpr ⟨fun x hx => b x hx, hp.sublist (List.drop_sublist _ _)⟩, fun x hx y hy => ?_⟩; rcases List.mem_cons.mp hy with rfl | hy
  · exact a x hx
  · exact Nat.lt_trans (a x hx) (b y hy)
def adv (mask : Nat) (p : SetTable.Probe) : SetTable.Probe := SetTable.advance { SetTable.fresh 0 0 false with mask := mask } p
def advs (mask : Nat) (p : SetTable.Probe) : Nat → SetTable.Probe
  | 0 => p
  | n + 1 => adv mask (advs mask p n)
theorem advs_add (mask : Nat) (p : SetTable.Probe) (n : Nat) : ∀ m, advs mask (advs mask p n) m = advs mask p (n + m)
  | 0 => rfl
  | m + 1 => by rw [advs, advs_add mask p n m]; rfl
theorem advs_run (mask : Nat) (p : SetTable.Probe) : ∀ n, n ≤ p.more → advs mask p n = { p with j := p.j + n, more := p.more - n }
  | 0, _ => rfl
  | n + 1, h => by
    rw [advs, advs_run mask p n (by omega)]
    unfold adv SetTable.advance; dsimp only
    rw [if_pos (show p.more - n > 0 by omega)]
    congr 1
def at0 (mask i pt : Nat) (d : Option Nat) : SetTable.Probe := { j := i, more := SetTable.runEnd mask i - i, i := i, perturb := pt, dummy := d }
theorem run9 (mask i : Nat) : SetTable.runEnd mask i - i ≤ 9 := by
  unfold SetTable.runEnd
  split <;> omega
def leaps (mask i pt : Nat) : Nat → Nat × Nat
  | 0 => (i, pt)
  | n + 1 => SetTable.leap mask (leaps mask i pt n).1 (leaps mask i pt n).2
theorem advs_leap (mask : Nat) (p : SetTable.Probe) : advs mask p (p.more + 1) = at0 mask (SetTable.leap mask p.i p.perturb).1 (SetTable.leap mask p.i p.perturb).2 p.dummy := by
  rw [advs, advs_run mask p p.more (Nat.le_refl _)]
  unfold adv SetTable.advance; dsimp only
  rw [if_neg (by simp)]
  rfl
theorem advs_leaps (mask : Nat) (p : SetTable.Probe) (hm : p.more ≤ 9) : ∀ n, ∃ k, k ≤ 10 * (n + 1) ∧ advs mask p k = at0 mask (leaps mask p.i p.perturb (n + 1)).1 (leaps mask p.i p.perturb (n + 1)).2 p.dummy
  | 0 => ⟨p.more + 1, by omega, advs_leap mask p⟩
  | n + 1 => by
    obtain ⟨k, hk, e⟩ := advs_leaps mask p hm n
    generalize hl : leaps mask p.i p.perturb (n + 1) = l at e
    have := advs_leap mask (at0 mask l.1 l.2 p.dummy)
    refine ⟨k + ((at0 mask l.1 l.2 p.dummy).more + 1), ?_, ?_⟩
    · have := run9 mask l.1
      show k + (SetTable.runEnd mask l.1 - l.1 + 1) ≤ _
      omega
    · rw [← advs_add, e, this, leaps, hl]
      rfl
theorem leaps_pt (mask i pt : Nat) : ∀ n, (leaps mask i pt n).2 = pt / 32 ^ n
  | 0 => by simp [leaps]
  | n + 1 => by
    rw [leaps]
    show (leaps mask i pt n).2 / 32 = _
    rw [leaps_pt mask i pt n, Nat.div_div_eq_div_mul, Nat.pow_succ]
theorem leaps_zero (mask i pt : Nat) (h : pt < 2 ^ 64) {n : Nat} (hn : 13 ≤ n) : (leaps mask i pt n).2 = 0 := by
  rw [leaps_pt]
  refine Nat.div_eq_of_lt (Nat.lt_of_lt_of_le h ?_)
  exact Nat.le_trans (show 2 ^ 64 ≤ 32 ^ 13 by decide) (Nat.pow_le_pow_right (by decide) hn)
def cyc (N i : Nat) : Nat → Nat
  | 0 => i
  | n + 1 => (cyc N i n * 5 + 1) % N
theorem cyc_add (N i n : Nat) : ∀ m, cyc N (cyc N i n) m = cyc N i (n + m)
  | 0 => rfl
  | m + 1 => by rw [cyc, cyc_add N i n m]; rfl
theorem leaps_cyc (mask i pt : Nat) (h : pt < 2 ^ 64) : ∀ n, (leaps mask i pt (13 + n)).1 = cyc (mask + 1) (leaps mask i pt 13).1 n
  | 0 => rfl
  | n + 1 => by
    rw [show 13 + (n + 1) = (13 + n) + 1 by omega, leaps, cyc, ← leaps_cyc mask i pt h n]
    show (_ * 5 + 1 + (leaps mask i pt (13 + n)).2 / 32) % (mask + 1) = _
    rw [leaps_zero mask i pt h (by omega)]
def OkMask (m : Nat) : Prop := m = 7 ∨ m = 15 ∨ m = 31 ∨ m = 63 ∨ m = 127
def orbit (N : Nat) : Nat → Nat → List Nat
  | 0, _ => []
  | n + 1, i => i :: orbit N n ((i * 5 + 1) % N)
def orbChk (N : Nat) : Bool := ((List.range N).all fun j => (orbit N N 0).contains j) && (cyc N 0 N == 0)
theorem orb_all : orbChk 8 = true ∧ orbChk 16 = true ∧ orbChk 32 = true ∧ orbChk 64 = true ∧ orbChk 128 = true := by decide +kernel
theorem orbit_get (N : Nat) : ∀ (n i k v : Nat), (orbit N n i)[k]? = some v → k < n ∧ v = cyc N i k
  | 0, i, k, v, h => by simp [orbit] at h
  | n + 1, i, 0, v, h => by simp [orbit] at h; exact ⟨by omega, h.symm⟩
  | n + 1, i, k + 1, v, h => by
    simp [orbit] at h
    obtain ⟨h1, h2⟩ := orbit_get N n _ k v h
    refine ⟨by omega, ?_⟩
    rw [h2, show (i * 5 + 1) % N = cyc N i 1 from rfl, cyc_add]
    congr 1
    omega
theorem OkMask.orb {m : Nat} (h : OkMask m) : orbChk (m + 1) = true := by
  obtain ⟨a, b, c, d, e⟩ := orb_all
  rcases h with rfl | rfl | rfl | rfl | rfl <;> assumption
theorem cyc_cover {m : Nat} (h : OkMask m) {i j : Nat} (hi : i ≤ m) (hj : j ≤ m) : ∃ n, n ≤ m ∧ cyc (m + 1) i n = j := by
  have o := h.orb
  unfold orbChk at o
  rw [Bool.and_eq_true] at o
  have fnd : ∀ x, x ≤ m → ∃ a, a < m + 1 ∧ x = cyc (m + 1) 0 a := fun x hx => by
    have := List.all_eq_true.mp o.1 x (List.mem_range.mpr (by omega))
    rw [List.contains_iff_mem] at this
    obtain ⟨a, ha⟩ := List.getElem?_of_mem this
    exact ⟨a, orbit_get _ _ _ _ _ ha⟩
  obtain ⟨a, ha, ea⟩ := fnd i hi
  obtain ⟨b, hb, eb⟩ := fnd j hj
  by_cases c : a ≤ b
  · exact ⟨b - a, by omega, by rw [ea, cyc_add, eb]; congr 1; omega⟩
  · refine ⟨m + 1 - a + b, by omega, ?_⟩
    rw [ea, cyc_add, show a + (m + 1 - a + b) = (m + 1) + b by omega, ← cyc_add, eq_of_beq o.2, eb]
theorem cover {m : Nat} (hm : OkMask m) {p : SetTable.Probe} (h9 : p.more ≤ 9) (hp : p.perturb < 2 ^ 64) {j : Nat} (hj : j ≤ m) : ∃ n, n < 10 * SetTable.turns m ∧ (advs m p n).j = j := by
  have hi : (leaps m p.i p.perturb 13).1 ≤ m := by
    have : ∀ n, (leaps m p.i p.perturb (n + 1)).1 ≤ m := fun n => Nat.le_of_lt_succ (Nat.mod_lt _ (by omega))
    exact this 12
  obtain ⟨n, hn, e⟩ := cyc_cover hm hi hj
  obtain ⟨k, hk, ek⟩ := advs_leaps m p h9 (12 + n)
  refine ⟨k, ?_, ?_⟩
  · unfold SetTable.turns
    omega
  · rw [ek]
    show (leaps m p.i p.perturb (12 + n + 1)).1 = j
    rw [show 12 + n + 1 = 13 + n by omega, leaps_cyc m _ _ hp, e]
theorem nodup_len : ∀ {l m : List Nat}, l.Nodup → (∀ x ∈ l, x ∈ m) → l.length ≤ m.length
  | [], m, _, _ => Nat.zero_le _
  | x :: l, m, hn, hs => by
    rw [List.nodup_cons] at hn
    have hx := hs x (by simp)
    have := nodup_len (l := l) (m := m.erase x) hn.2 fun y hy => (List.mem_erase_of_ne (fun e => hn.1 (by rw [← e]; exact hy))).mpr (hs y (by simp [hy]))
    rw [List.length_erase_of_mem hx] at this
    have := List.length_pos_of_mem hx
    simp only [List.length_cons]
    omega
def start (mask : Nat) (h : Int) : SetTable.Probe := at0 mask (SetTable.bits h % (mask + 1)) (SetTable.bits h) none
def pos (mask : Nat) (h : Int) (n : Nat) : SetTable.Probe := advs mask (start mask h) n
structure Good (p : SetTable.Probe) : Prop where
  more : p.more ≤ 9
  pt : p.perturb < 2 ^ 64
  dum : p.dummy = none
theorem Good.adv {mask : Nat} {p : SetTable.Probe} (g : Good p) : Good (adv mask p) := by
  unfold LS.adv SetTable.advance; dsimp only
  split
  · exact ⟨by have := g.more; show p.more - 1 ≤ 9; omega, g.pt, g.dum⟩
  · exact ⟨run9 _ _, Nat.lt_of_le_of_lt (Nat.div_le_self _ _) g.pt, g.dum⟩
theorem good (mask : Nat) (h : Int) : ∀ n, Good (pos mask h n)
  | 0 => ⟨run9 _ _, by
      show SetTable.bits h < _
      unfold SetTable.bits
      have := Int.emod_lt_of_pos h (show (0 : Int) < 2 ^ 64 by decide)
      have := Int.emod_nonneg h (show (2 ^ 64 : Int) ≠ 0 by decide)
      omega, rfl⟩
  | n + 1 => (good mask h n).adv
def Way (mask : Nat) (l : List Nat) (h : Int) (j : Nat) : Prop := ∃ n, (pos mask h n).j = j ∧ ∀ k, k < n → (pos mask h k).j ∈ l
theorem Way.more {mask : Nat} {l l' : List Nat} {h : Int} {j : Nat} (x : Way mask l h j) (s : ∀ y ∈ l, y ∈ l') : Way mask l' h j := let ⟨n, a, b⟩ := x; ⟨n, a, fun k hk => s _ (b k hk)⟩
structure Tab (t : SetTable) (hs : List Int) : Prop where
  mask : OkMask t.mask
  dum : t.dummies = #[]
  pw : t.place.toList.Pairwise (· < ·)
  le : ∀ j ∈ t.place.toList, j ≤ t.mask
  len : t.place.toList.length = hs.length
  room : hs.length ≤ t.mask
  way : ∀ (i j : Nat) (h : Int), hs[i]? = some h → t.place.toList[i]? = some j → Way t.mask t.place.toList h j
theorem Tab.nd {t : SetTable} {hs : List Int} (T : Tab t hs) : t.place.toList.Nodup := T.pw.imp fun h => Nat.ne_of_lt h
theorem Tab.free {t : SetTable} {hs : List Int} (T : Tab t hs) : ∃ j, j ≤ t.mask ∧ j ∉ t.place.toList := by
  apply Classical.byContradiction
  intro no
  have all : ∀ x ∈ List.range (t.mask + 1), x ∈ t.place.toList := fun x hx => by
    have := List.mem_range.mp hx
    exact Classical.byContradiction fun n => no ⟨x, by omega, n⟩
  have := nodup_len List.nodup_range all
  rw [List.length_range, T.len] at this
  have := T.room
  omega
theorem Tab.first {t : SetTable} {hs : List Int} (T : Tab t hs) (h : Int) : ∃ e, e < 1420 ∧ (pos t.mask h e).j ∉ t.place.toList ∧ ∀ k, k < e → (pos t.mask h k).j ∈ t.place.toList := by
  obtain ⟨j, hj, hf⟩ := T.free
  obtain ⟨n, hn, e⟩ := cover T.mask (good t.mask h 0).more (good t.mask h 0).pt hj
  have hb : 10 * SetTable.turns t.mask ≤ 1420 := by
    unfold SetTable.turns
    rcases T.mask with z | z | z | z | z <;> omega
  have ex : ∃ n, (pos t.mask h n).j ∉ t.place.toList := ⟨n, by rw [show (pos t.mask h n).j = j from e]; exact hf⟩
  -- the least one
  have key : ∀ n, (pos t.mask h n).j ∉ t.place.toList → ∃ e, e ≤ n ∧ (pos t.mask h e).j ∉ t.place.toList ∧ ∀ k, k < e → (pos t.mask h k).j ∈ t.place.toList := by
    intro n
    induction n using Nat.strongRecOn with
    | _ n ih =>
      intro hn
      by_cases c : ∃ k, k < n ∧ (pos t.mask h k).j ∉ t.place.toList
      · obtain ⟨k, hk, hk'⟩ := c
        obtain ⟨e, he, r⟩ := ih k hk hk'
        exact ⟨e, by omega, r⟩
      · exact ⟨n, Nat.le_refl _, hn, fun k hk => Classical.byContradiction fun z => c ⟨k, hk, z⟩⟩
  obtain ⟨e', he', r⟩ := key n (by rw [show (pos t.mask h n).j = j from e]; exact hf)
  exact ⟨e', by omega, r⟩
theorem Tab.go {t : SetTable} {hs : List Int} (T : Tab t hs) {hashAt : Nat → Int} {h : Int} : ∀ (fuel n m : Nat), m < fuel → (pos t.mask h (n + m)).j ∉ t.place.toList →
    ∃ n1, n ≤ n1 ∧ (∀ k, n ≤ k → k < n1 → ∃ i : Nat, t.place.toList[i]? = some (pos t.mask h k).j ∧ hashAt i ≠ h) ∧
      (((pos t.mask h n1).j ∉ t.place.toList ∧ SetTable.probe.go t hashAt h fuel (pos t.mask h n) = some (.empty (pos t.mask h n1).j none)) ∨
        ∃ i : Nat, t.place.toList[i]? = some (pos t.mask h n1).j ∧ hashAt i = h ∧ SetTable.probe.go t hashAt h fuel (pos t.mask h n) = some (.candidate (pos t.mask h n1).j i (pos t.mask h (n1 + 1)))) := by
  intro fuel
  induction fuel with
  | zero => intro n m hm; omega
  | succ fuel ih =>
    intro n m hm hf
    unfold SetTable.probe.go
    by_cases c : (pos t.mask h n).j ∈ t.place.toList
    · obtain ⟨i, hi⟩ := List.getElem?_of_mem c
      rw [slot_live T.pw hi]
      dsimp only
      by_cases d : (hashAt i == h) = true
      · rw [if_pos d]
        exact ⟨n, Nat.le_refl _, fun k h1 h2 => by omega, .inr ⟨i, hi, eq_of_beq d, rfl⟩⟩
      · rw [if_neg d]
        cases m with
        | zero => exact absurd c hf
        | succ m =>
          obtain ⟨n1, h1, h2, h3⟩ := ih (n + 1) m (by omega) (by rw [show n + 1 + m = n + (m + 1) by omega]; exact hf)
          refine ⟨n1, by omega, fun k a b => ?_, h3⟩
          by_cases e : k = n
          · subst e; exact ⟨i, hi, fun z => d (by rw [z]; simp)⟩
          · exact h2 k (by omega) b
    · rw [slot_none T.dum c]
      refine ⟨n, Nat.le_refl _, fun k h1 h2 => by omega, .inl ⟨c, ?_⟩⟩
      dsimp only
      rw [(good t.mask h n).dum]
theorem Tab.probe {t : SetTable} {hs : List Int} (T : Tab t hs) (hashAt : Nat → Int) (h : Int) (n : Nat) :
    ∃ n1, n ≤ n1 ∧ (∀ k, n ≤ k → k < n1 → ∃ i : Nat, t.place.toList[i]? = some (pos t.mask h k).j ∧ hashAt i ≠ h) ∧
      (((pos t.mask h n1).j ∉ t.place.toList ∧ t.probe hashAt h (pos t.mask h n) = some (.empty (pos t.mask h n1).j none)) ∨
        ∃ i : Nat, t.place.toList[i]? = some (pos t.mask h n1).j ∧ hashAt i = h ∧ t.probe hashAt h (pos t.mask h n) = some (.candidate (pos t.mask h n1).j i (pos t.mask h (n1 + 1)))) := by
  obtain ⟨j, hj, hf⟩ := T.free
  obtain ⟨m, hm, e⟩ := cover T.mask (good t.mask h n).more (good t.mask h n).pt hj
  refine T.go _ n m hm ?_
  rw [show (pos t.mask h (n + m)).j = j by rw [← e]; unfold pos; rw [advs_add]]
  exact hf
theorem Tab.put {t : SetTable} {hs : List Int} (T : Tab t hs) {h : Int} {j : Nat} (hj : j ∉ t.place.toList) (hl : j ≤ t.mask) (w : Way t.mask t.place.toList h j) (hr : hs.length + 1 ≤ t.mask) :
    ∃ p, p ≤ hs.length ∧ (t.put j).2 = p ∧ Tab (t.put j).1 (hs.take p ++ h :: hs.drop p) := by
  have lo := below_lo T.pw j
  have hp : SetTable.below t.place j ≤ t.place.toList.length := lo.1
  have ep : (t.put j).1.place.toList = t.place.toList.take (SetTable.below t.place j) ++ j :: t.place.toList.drop (SetTable.below t.place j) := insertAt_list _ _ _ (by simpa using hp)
  have sub : ∀ y ∈ t.place.toList, y ∈ (t.put j).1.place.toList := fun y hy => by
    rw [ep]
    rw [← List.take_append_drop (SetTable.below t.place j) t.place.toList] at hy
    rcases List.mem_append.mp hy with z | z
    · exact List.mem_append.mpr (.inl z)
    · exact List.mem_append_right _ (by simp [z])
  refine ⟨SetTable.below t.place j, by rw [← T.len]; exact hp, rfl, ?_⟩
  generalize hpp : SetTable.below t.place j = p at *
  have hlen : p ≤ hs.length := by rw [← T.len]; exact hp
  have hsz : t.place.size = t.place.toList.length := by simp
  refine ⟨T.mask, ?_, by rw [ep]; exact pairwise_ins T.pw lo hj, ?_, ?_, ?_, ?_⟩
  · show (if SetTable.has t.dummies j = true then _ else t.dummies) = #[]
    rw [T.dum]
    simp [SetTable.has]
  · intro y hy
    rw [ep] at hy
    rcases List.mem_append.mp hy with z | z
    · exact T.le y (List.mem_of_mem_take z)
    · rcases List.mem_cons.mp z with rfl | z
      · exact hl
      · exact T.le y (List.mem_of_mem_drop z)
  · rw [ep]
    have := T.len
    simp at this ⊢
    omega
  · show _ ≤ t.mask
    simp
    omega
  · intro i j' h' e1 e2
    show Way t.mask _ h' j'
    rw [ep] at e2
    by_cases c : i < p
    · rw [List.getElem?_append_left (by simp; omega), List.getElem?_take_of_lt c] at e1
      rw [List.getElem?_append_left (by simp; omega), List.getElem?_take_of_lt c] at e2
      exact (T.way i j' h' e1 e2).more sub
    · rw [List.getElem?_append_right (by simp; omega)] at e1 e2
      have l1 : (hs.take p).length = p := by simp; omega
      have l2 : (t.place.toList.take p).length = p := by simp; omega
      rw [l1] at e1
      rw [l2] at e2
      by_cases d : i = p
      · subst d
        rw [Nat.sub_self] at e1 e2
        simp at e1 e2
        subst e1 e2
        exact w.more sub
      · obtain ⟨q, hq⟩ : ∃ q, i - p = q + 1 := ⟨i - p - 1, by omega⟩
        rw [hq, List.getElem?_cons_succ, List.getElem?_drop] at e1 e2
        exact (T.way _ j' h' e1 e2).more sub
theorem Tab.fresh (f m : Nat) (led : Bool) : Tab (SetTable.fresh f m led) [] :=
  ⟨.inl rfl, rfl, List.Pairwise.nil, fun j hj => by simp [SetTable.fresh] at hj, rfl, Nat.zero_le _, fun i j h e => by simp at e⟩
end LS
set_option maxRecDepth 100000
set_option maxHeartbeats 1000000
namespace LS
open PySem
def occ (mask : Nat) (owner : Array (Option Nat)) : List Nat := (List.range (mask + 1)).filter fun j => (owner.getD j none).isSome
theorem mem_occ {mask : Nat} {owner : Array (Option Nat)} {j : Nat} : j ∈ occ mask owner ↔ j ≤ mask ∧ ∃ k, owner[j]? = some (some k) := by
  unfold occ
  rw [List.mem_filter, List.mem_range, Array.getD_eq_getD_getElem?]
  constructor
  · rintro ⟨h1, h2⟩
    refine ⟨by omega, ?_⟩
    cases e : owner[j]? with
    | none => rw [e] at h2; simp at h2
    | some o =>
      cases o with
      | none => rw [e] at h2; simp at h2
      | some k => exact ⟨k, rfl⟩
  · rintro ⟨h1, k, e⟩
    rw [e]
    exact ⟨by omega, rfl⟩
theorem runEnd_le {mask i : Nat} (h : i ≤ mask) : SetTable.runEnd mask i ≤ mask := by
  unfold SetTable.runEnd
  split <;> omega
theorem runEnd_ge (mask i : Nat) : i ≤ SetTable.runEnd mask i := by
  unfold SetTable.runEnd
  split <;> omega
theorem free_go {mask : Nat} {owner : Array (Option Nat)} (hz : owner.size = mask + 1) (h : Int) : ∀ (fuel L n0 i pt : Nat), L < fuel → i ≤ mask → pos mask h n0 = at0 mask i pt none → (∀ k, k < n0 → (pos mask h k).j ∈ occ mask owner) →
    (leaps mask i pt L).1 ∉ occ mask owner → ∃ j, SetTable.layClean.free mask owner fuel i pt = some j ∧ j ≤ mask ∧ j ∉ occ mask owner ∧ Way mask (occ mask owner) h j := by
  intro fuel
  induction fuel with
  | zero => intro L n0 i pt hL; omega
  | succ fuel ih =>
    intro L n0 i pt hL hi hp hw hf
    unfold SetTable.layClean.free
    have hre := runEnd_le hi
    have hrg := runEnd_ge mask i
    have run : ∀ k, k ≤ SetTable.runEnd mask i - i → (pos mask h (n0 + k)).j = i + k := fun k hk => by
      have : pos mask h (n0 + k) = advs mask (pos mask h n0) k := by unfold pos; rw [advs_add]
      rw [this, hp, advs_run _ _ _ (by exact hk)]
      rfl
    have isocc : ∀ k, k ≤ SetTable.runEnd mask i - i → (owner.getD (i + k) (some 0)).isNone = false → i + k ∈ occ mask owner := fun k hk e => by
      refine mem_occ.mpr ⟨by omega, ?_⟩
      rw [Array.getD_eq_getD_getElem?] at e; have hb : i + k < owner.size := by omega
      rw [Array.getElem?_eq_getElem hb] at e ⊢
      cases e2 : owner[i + k] with
      | none => rw [e2] at e; simp at e
      | some v => exact ⟨v, rfl⟩
    cases e : (List.range (SetTable.runEnd mask i + 1 - i)).find? fun k => (owner.getD (i + k) (some 0)).isNone with
    | some k =>
      dsimp only
      obtain ⟨h1, h2, h3⟩ := List.find?_range_eq_some.mp e
      rw [List.mem_range] at h2
      refine ⟨i + k, rfl, by omega, ?_, n0 + k, run k (by omega), fun k' hk' => ?_⟩
      · intro m
        obtain ⟨_, v, ev⟩ := mem_occ.mp m
        rw [Array.getD_eq_getD_getElem?, ev] at h1
        simp at h1
      · by_cases c : k' < n0
        · exact hw k' c
        · obtain ⟨q, rfl⟩ : ∃ q, k' = n0 + q := ⟨k' - n0, by omega⟩
          rw [run q (by omega)]
          refine isocc q (by omega) ?_
          have := h3 q (by omega)
          simpa using this
    | none =>
      dsimp only
      have all : ∀ k, k ≤ SetTable.runEnd mask i - i → i + k ∈ occ mask owner := fun k hk => by
        refine isocc k hk ?_
        have := List.find?_eq_none.mp e k (List.mem_range.mpr (by omega))
        exact Bool.eq_false_iff.mpr this
      cases L with
      | zero => exact absurd (all 0 (by omega)) (by simpa [leaps] using hf)
      | succ L =>
        have step : pos mask h (n0 + (SetTable.runEnd mask i - i + 1)) = at0 mask (SetTable.leap mask i pt).1 (SetTable.leap mask i pt).2 none := by
          have : pos mask h (n0 + (SetTable.runEnd mask i - i + 1)) = advs mask (pos mask h n0) (SetTable.runEnd mask i - i + 1) := by unfold pos; rw [advs_add]
          rw [this, hp]
          exact advs_leap mask (at0 mask i pt none)
        refine ih L _ (SetTable.leap mask i pt).1 (SetTable.leap mask i pt).2 (by omega) (Nat.le_of_lt_succ (Nat.mod_lt _ (by omega))) step (fun k hk => ?_) ?_
        · by_cases c : k < n0
          · exact hw k c
          · obtain ⟨q, rfl⟩ : ∃ q, k = n0 + q := ⟨k - n0, by omega⟩
            rw [run q (by omega)]
            exact all q (by omega)
        · have sh : ∀ n, leaps mask (SetTable.leap mask i pt).1 (SetTable.leap mask i pt).2 n = leaps mask i pt (n + 1) := by
            intro n
            induction n with
            | zero => rfl
            | succ n ihn => rw [leaps, ihn]; rfl
          rw [sh]
          exact hf
theorem free_at {mask : Nat} (hm : OkMask mask) {owner : Array (Option Nat)} (hz : owner.size = mask + 1) (h : Int) {f : Nat} (hf : f ≤ mask) (hfo : f ∉ occ mask owner) :
    ∃ j, SetTable.layClean.free mask owner (SetTable.turns mask) (SetTable.bits h % (mask + 1)) (SetTable.bits h) = some j ∧ j ≤ mask ∧ j ∉ occ mask owner ∧ Way mask (occ mask owner) h j := by
  have g := good mask h 0
  have hi : (leaps mask (SetTable.bits h % (mask + 1)) (SetTable.bits h) 13).1 ≤ mask := Nat.le_of_lt_succ (Nat.mod_lt _ (by omega))
  obtain ⟨n, hn, e⟩ := cyc_cover hm hi hf
  refine free_go hz h _ (13 + n) 0 _ _ (by unfold SetTable.turns; omega) (Nat.le_of_lt_succ (Nat.mod_lt _ (by omega))) rfl (fun k hk => by omega) ?_
  rw [leaps_cyc mask _ _ (show SetTable.bits h < 2 ^ 64 from g.pt), e]
  exact hfo
structure Own (mask : Nat) (hs : List Int) (owner : Array (Option Nat)) : Prop where
  sz : owner.size = mask + 1
  lt : ∀ (j k : Nat), owner[j]? = some (some k) → k < hs.length
  inj : ∀ (j j' k : Nat), owner[j]? = some (some k) → owner[j']? = some (some k) → j = j'
  at_ : ∀ (k : Nat) (h : Int), hs[k]? = some h → ∃ j, owner[j]? = some (some k) ∧ Way mask (occ mask owner) h j
theorem Own.free {mask : Nat} {hs : List Int} {owner : Array (Option Nat)} (O : Own mask hs owner) (hl : hs.length ≤ mask) : ∃ f, f ≤ mask ∧ f ∉ occ mask owner := by
  apply Classical.byContradiction
  intro no
  have all : ∀ j, j ≤ mask → ∃ k, owner[j]? = some (some k) := fun j hj => by
    have : j ∈ occ mask owner := Classical.byContradiction fun n => no ⟨j, hj, n⟩
    exact (mem_occ.mp this).2
  -- to each slot its number
  have nd : ((List.range (mask + 1)).map fun j => (owner.getD j none).getD 0).Nodup := by
    rw [List.nodup_iff_pairwise_ne, List.pairwise_map]
    refine List.Pairwise.imp_of_mem (R := (· < ·)) (fun {a b} ha hb hab => ?_) List.pairwise_lt_range
    rw [List.mem_range] at ha hb
    obtain ⟨k, hk⟩ := all a (by omega)
    obtain ⟨k', hk'⟩ := all b (by omega)
    rw [Array.getD_eq_getD_getElem?, Array.getD_eq_getD_getElem?, hk, hk']
    intro e
    have e : k = k' := e
    subst e
    have := O.inj _ _ _ hk hk'
    omega
  have := nodup_len (m := List.range hs.length) nd fun x hx => by
    obtain ⟨j, hj, e⟩ := List.mem_map.mp hx
    rw [List.mem_range] at hj
    obtain ⟨k, hk⟩ := all j (by omega)
    rw [Array.getD_eq_getD_getElem?, hk] at e
    have e : k = x := e
    subst e
    exact List.mem_range.mpr (O.lt j k hk)
  simp at this
  omega
theorem Own.step {mask : Nat} (hm : OkMask mask) {hs : List Int} {owner : Array (Option Nat)} (O : Own mask hs owner) (hl : hs.length ≤ mask) (h : Int) :
    ∃ j, SetTable.layClean.free mask owner (SetTable.turns mask) (SetTable.bits h % (mask + 1)) (SetTable.bits h) = some j ∧ Own mask (hs ++ [h]) (owner.setIfInBounds j (some hs.length)) := by
  obtain ⟨f, hf, hfo⟩ := O.free hl
  obtain ⟨j, e, hj, hjo, w⟩ := free_at hm O.sz h hf hfo
  have hb : j < owner.size := by rw [O.sz]; omega
  have get : ∀ i, (owner.setIfInBounds j (some hs.length))[i]? = if i = j then some (some hs.length) else owner[i]? := fun i => by
    rw [Array.getElem?_setIfInBounds]; by_cases c : j = i
    · subst c; rw [if_pos rfl, if_pos rfl, if_pos hb]
    · rw [if_neg c, if_neg (fun z => c z.symm)]
  have more : ∀ y ∈ occ mask owner, y ∈ occ mask (owner.setIfInBounds j (some hs.length)) := fun y hy => by
    obtain ⟨h1, k, hk⟩ := mem_occ.mp hy
    refine mem_occ.mpr ⟨h1, ?_⟩
    rw [get]
    split
    · exact ⟨_, rfl⟩
    · exact ⟨k, hk⟩
  refine ⟨j, e, ⟨by simp [O.sz], fun i k q => ?_, fun i i' k q q' => ?_, fun k h' q => ?_⟩⟩
  · rw [get] at q
    rw [List.length_append]
    split at q
    · cases q; simp
    · have := O.lt i k q; omega
  · rw [get] at q q'
    split at q <;> split at q'
    · omega
    · cases q; have := O.lt _ _ q'; omega
    · cases q'; have := O.lt _ _ q; omega
    · exact O.inj _ _ _ q q'
  · by_cases c : k < hs.length
    · rw [List.getElem?_append_left c] at q
      obtain ⟨i, hi, wi⟩ := O.at_ k h' q
      refine ⟨i, ?_, wi.more more⟩
      rw [get, if_neg ?_]
      · exact hi
      · rintro rfl
        exact hjo (mem_occ.mpr ⟨hj, _, hi⟩)
    · rw [List.getElem?_append_right (by omega)] at q
      have : k - hs.length = 0 := by
        have := (List.getElem?_eq_some_iff.mp q).1
        simp at this
        omega
      rw [this] at q
      have q : h = h' := by simpa using q
      subst q
      have : k = hs.length := by omega
      subst this
      exact ⟨j, by rw [get, if_pos rfl], w.more more⟩
end LS
set_option maxRecDepth 100000
set_option maxHeartbeats 1000000
namespace LS
open PySem
section
variable {prog : Program} {w : World} {K : Type} [DecidableEq K] {kn : KeyKind prog w K} {A : Around} {E : Value → Shared → Prop} {s : Shared}
structure SetAt (kn : KeyKind prog w K) (h : Heap) (xs : List (List K × Addr)) (es : Array (Int × Value)) (t : SetTable) : Prop where
  es : es.toList = xs.map fun x => (tupleKeyHash kn x.1, Value.ref x.2)
  is : ∀ x ∈ xs, IsTupleKey kn h x.1 x.2
  nd : (xs.map (·.1)).Nodup
  tab : Tab t (xs.map fun x => tupleKeyHash kn x.1)
  cap : xs.length * 5 < t.mask * 3
theorem SetAt.size {h : Heap} {xs : List (List K × Addr)} {es : Array (Int × Value)} {t : SetTable} (S : SetAt kn h xs es t) : es.size = xs.length := by
  rw [← Array.length_toList, S.es, List.length_map]
theorem SetAt.fits {h : Heap} {xs : List (List K × Addr)} {es : Array (Int × Value)} {t : SetTable} (S : SetAt kn h xs es t) : t.fits es.size = true := by
  unfold SetTable.fits SetTable.fill
  have h1 := S.tab.len
  have h2 := S.tab.room
  have h3 := S.size
  rw [S.tab.dum]
  simp only [Array.length_toList, List.length_map] at h1 h2
  simp only [Bool.and_eq_true, beq_iff_eq, decide_eq_true_eq, List.size_toArray, List.length_nil]
  omega
theorem SetAt.get {h : Heap} {xs : List (List K × Addr)} {es : Array (Int × Value)} {t : SetTable} (S : SetAt kn h xs es t) {i : Nat} {x : List K × Addr} (e : xs[i]? = some x) : es[i]? = some (tupleKeyHash kn x.1, Value.ref x.2) := by
  rw [← Array.getElem?_toList, S.es, List.getElem?_map, e]
  rfl
def Flags (w : World) (n : Nat) (t : SetTable) : Prop := (n ≤ 1 ∨ t.plain = false) ∧ t.led = !(w.params.followText "set-order")
def SetOfT (kn : KeyKind prog w K) (h : Heap) (a : Addr) (xs : List (List K × Addr)) : Prop := ∃ o es ep t, h.get? a = some o ∧ o.ExactSet ∧ o.data = .set es ep t ∧ SetAt kn h xs es t ∧ Flags w xs.length t
theorem stored {h : Heap} {a : Addr} {o : Obj} {es : Array (Int × Value)} {ep : Nat} {t : SetTable} (ho : h.get? a = some o) (hd : o.data = .set es ep t) (es' : Array (Int × Value)) (t' : SetTable) :
    (h.update a (Obj.putSet es' t')).get? a = some { o with data := .set es' (ep + 1) t' } := by
  have := Heap.get?_update_self (Obj.putSet es' t') ho (by rw [putSet_of es' t' hd]; rfl); rwa [putSet_of es' t' hd] at this
end
end LS
set_option maxRecDepth 100000
set_option maxHeartbeats 1000000
namespace LS
open PySem
theorem Tab.plain {t : SetTable} {hs : List Int} (T : Tab t hs) (b : Bool) : Tab { t with plain := b } hs := ⟨T.mask, T.dum, T.pw, T.le, T.len, T.room, T.way⟩
section
variable {prog : Program} {w : World} {K : Type} [DecidableEq K] {kn : KeyKind prog w K} {A : Around} {E : Value → Shared → Prop} {s : Shared}
end
end LS
set_option maxRecDepth 100000
set_option maxHeartbeats 3200000
namespace LS
open PySem PyProof.Rows
section
variable {w : World} {prog : Program} {A : Around} {E : Value → Shared → Prop} {s : Shared}
end
section
variable {prog : Program} {w : World} {K : Type} [DecidableEq K] {kn : KeyKind prog w K} {A : Around} {E : Value → Shared → Prop} {s : Shared}
end
end LS
set_option maxRecDepth 100000
set_option maxHeartbeats 3200000
namespace LS
open PySem PyProof.Rows
section
variable {A : Around} {M : Model} {E : Value → Shared → Prop} {s : Shared}
end
section
variable {prog : Program} {w : World} {K : Type} [DecidableEq K] {kn : KeyKind prog w K} {A : Around} {E : Value → Shared → Prop} {s : Shared}
end
end LS
set_option maxRecDepth 100000
set_option maxHeartbeats 3200000
namespace LS
open PySem PyProof.Rows
structure Both {K : Type} (zs xs ys : List (List K × Addr)) : Prop where
  from_ : ∀ z ∈ zs, z ∈ xs ∨ z ∈ ys
  keys : ∀ k, k ∈ zs.map (·.1) ↔ k ∈ xs.map (·.1) ∨ k ∈ ys.map (·.1)
section
variable {prog : Program} {w : World} {K : Type} [DecidableEq K] {kn : KeyKind prog w K} {A : Around} {E : Value → Shared → Prop} {s : Shared}
end
end LS
set_option maxRecDepth 100000
set_option maxHeartbeats 3200000
namespace LS
open PySem PyProof.Rows
section
variable {prog : Program} {w : World} {K : Type} [DecidableEq K] {kn : KeyKind prog w K} {A : Around} {E : Value → Shared → Prop} {s : Shared}
theorem SetOfT.typeIs {a : Addr} {xs : List (List K × Addr)} (h : SetOfT kn s.heap a xs) : s.TypeIs (.ref a) "set" := let ⟨o, _, _, _, ho, hx, _⟩ := h; ⟨o, ho, hx.1⟩
end
end LS
set_option maxRecDepth 100000
set_option maxHeartbeats 3200000
namespace LS
open PySem PyProof.Rows
abbrev itObj (first : Value) (i : Nat) (S : Addr) (n ep : Nat) : Obj := { cls := .type "set_iterator", data := .fields #[first, .int i 0, .ref S, .int n 0, .int ep 0] }
section
variable {w : World} {prog : Program} {A : Around} {E : Value → Shared → Prop} {s : Shared}
def Way3 (w : World) (S T : Addr) (es : Array (Int × Value)) (ep : Nat) (t : SetTable) (vs : List Value) (i : Nat) (first : Value) (h : Heap) : Prop :=
  (∃ (oT : Obj) (items : Array Value) (nn : Nat), first = .ref T ∧ h.get? T = some oT ∧ oT.data = .seq items nn ∧ items.size = vs.length ∧ ∀ (j : Nat) (x : Value), vs[j]? = some x → ∃ (place : Nat) (hx : Int), items[j]? = some (Value.int (place : Int) 0) ∧ es[place]? = some (hx, x)) ∨
  (w.params.followText "set-order" = true ∧ (∃ (k : Nat), first = .int k 0) ∧ vs = (pickOrder (w.params.setOrder S ep) es).toList.map (·.2)) ∨
  (w.params.followText "set-order" = false ∧ t.led = true ∧ es.size ≤ 1 ∧ vs = es.toList.map (·.2) ∧ ∃ (k : Nat), first = .int k 0 ∧ (i = 0 → k = 0) ∧ ∀ j, t.place.toList[0]? = some j → 0 < i → j < k)
structure ItSt (w : World) (I S T : Addr) (o : Obj) (es : Array (Int × Value)) (ep : Nat) (t : SetTable) (vs : List Value) (i : Nat) (h : Heap) : Prop where
  at_ : ∃ first, h.get? I = some (itObj first i S es.size ep) ∧ Way3 w S T es ep t vs i first h
  set : h.get? S = some o
end
section
variable {prog : Program} {w : World} {K : Type} [DecidableEq K] {kn : KeyKind prog w K} {A : Around} {E : Value → Shared → Prop} {s : Shared}
end
end LS
set_option maxRecDepth 100000
set_option maxHeartbeats 3200000
namespace LS
open PySem PyProof.Rows
section
variable {prog : Program} {w : World} {K : Type} [DecidableEq K] {kn : KeyKind prog w K} {A : Around} {E : Value → Shared → Prop} {s : Shared}
end
end LS
set_option maxRecDepth 100000
set_option maxHeartbeats 3200000
namespace LS
open PySem PySem.W PyProof.Rows
def AllLt (n : Nat) (p : Array Nat) : Prop := p.Perm (List.range n).toArray
theorem AllLt.get {n : Nat} {p : Array Nat} (h : AllLt n p) (hn : 0 < n) (i : Nat) : p.getD i 0 < n := by
  by_cases c : i < p.size
  · have : p[i] ∈ (List.range n).toArray := h.mem_iff.mp (Array.getElem_mem c)
    simp at this
    simp [Array.getD, c]
    exact this
  · simp [Array.getD, c]
    exact hn
section
variable {n : Nat} (hn : 0 < n)
include hn
end
section
variable {w : World} {prog : Program} {A : Around} {E : Value → Shared → Prop} {s : Shared}
end
end LS
set_option maxRecDepth 100000
set_option maxHeartbeats 3200000
namespace LS
open PySem PySem.W PyProof.Rows
section
variable {prog : Program} {w : World} {K : Type} [DecidableEq K] {kn : PySem.KeyKind prog w K} {A : Around} {E : Value → Shared → Prop} {s : Shared}
end
end LS
set_option maxRecDepth 100000
set_option maxHeartbeats 3200000
namespace LS
open PySem PySem.W PyProof.Rows
structure Firsts {K : Type} (zs l : List (List K × Addr)) : Prop where
  from_ : ∀ z ∈ zs, z ∈ l
  keys : ∀ k, k ∈ zs.map (·.1) ↔ k ∈ l.map (·.1)
section
variable {prog : Program} {w : World} {K : Type} [DecidableEq K] {kn : PySem.KeyKind prog w K} {A : Around} {E : Value → Shared → Prop} {s : Shared} {R : Result → Shared → Prop}
end
end LS
set_option maxRecDepth 100000
set_option maxHeartbeats 3200000
namespace L2
open PySem PySem.Spec PyProof.Rows LS
section
variable {X : Cx} {pins : List (Addr × Obj)} {σ : St} {H : Hp} {s : Shared}
end
end L2
set_option maxRecDepth 100000
set_option maxHeartbeats 1600000
namespace LS
open PySem
section
variable {w : World} {prog : Program} {A : Around} {E : Value → Shared → Prop} {s : Shared}
def RawD (h : Heap) (d : Addr) (es : Array DictEntry) (ep : Nat) : Prop := ∃ o, h.get? d = some o ∧ o.ExactDict ∧ o.data = .dict es ep
theorem RawD.typeIs {d : Addr} {es : Array DictEntry} {ep : Nat} (x : RawD s.heap d es ep) : s.TypeIs (.ref d) "dict" := let ⟨o, a, b, _⟩ := x; ⟨o, a, b.1⟩
theorem RawD.keep {h h' : Heap} {d : Addr} {es : Array DictEntry} {ep : Nat} (x : RawD h d es ep) (k : ∀ o, h.get? d = some o → h'.get? d = some o) : RawD h' d es ep := let ⟨o, a, b⟩ := x; ⟨o, k o a, b⟩
end
end LS
set_option maxRecDepth 100000
set_option maxHeartbeats 1600000
namespace L2
open PySem PySem.Spec PyProof.Rows LS
structure DIs (P : Program) (w : World) (d : Addr) (o : Obj) (kvs : List (List Key × V)) (xs : List (List Key × Addr × Value)) (es : Array DictEntry) (ep : Nat) : Prop where
  len : kvs.length ≤ sizeLine
  sys : (d == sysModules) = false
  ex : o.ExactDict
  data : o.data = .dict es ep
  es : es.toList = xs.map (entryOfKey (tupleKind (mixKind P w)))
  nd : (xs.map (·.1)).Nodup
section
variable {X : Cx} {pins : List (Addr × Obj)} {σ : St} {H : Hp} {s : Shared}
end
end L2
set_option maxRecDepth 100000
set_option maxHeartbeats 1600000
namespace L2
open PySem PySem.Spec PyProof.Rows LS
section
variable {X : Cx} {o : Expr} {to : TE} {apos cpos : Pos}
end
theorem Inv.trackF {X : Cx} {pins : List (Addr × Obj)} {σ : St} {H : Hp} {s : Shared} {a : Addr} {o : HO} (I : Inv X pins σ H s) (f : FpOk X pins H a) (hs : X.s₀.heap.objs.size ≤ a) (new : ObjOk X.prog X.w (upd H a o) s.heap a o) : Inv X pins σ (upd H a o) s := by
  obtain ⟨f0, f1, f2, f3, f4, f5⟩ := f
  have ne : ∀ {b u}, H b = some u → b ≠ a := fun e z => by rw [z, f0] at e; cases e
  refine ⟨I.ok, I.os, I.bare, ⟨I.base.keep, I.base.slot, fun b ob q n hx => ?_, I.base.there, fun b xs q => ?_, fun b ob u q => ?_, fun b ps q => ?_⟩, I.loc, I.cell, ?_, fun x c e => ?_, fun p hp => ?_, fun b u e => ?_, I.len⟩
  · rw [upd_ne (Nat.ne_of_lt (Nat.lt_of_lt_of_le (Heap.lt_size q) hs))]; exact I.base.free b ob q n hx
  · have := I.base.tups b xs q
    rw [upd_ne (ne this)]; exact this
  · have := I.base.frzs b ob u q
    rw [upd_ne (ne this)]; exact this
  · obtain ⟨m, e⟩ := I.base.tbls b ps q
    exact ⟨m, by rw [upd_ne (ne e)]; exact e⟩
  · rw [upd_ne (Ne.symm f1)]; exact I.free
  · rw [upd_ne (f4 x c e)]; exact I.freeC x c e
  · obtain ⟨p1, p2, p3⟩ := I.pin p hp
    exact ⟨p1, by rw [upd_ne (f5 p hp)]; exact p2, p3⟩
  · by_cases hb : b = a
    · subst hb; rw [upd_same] at e; cases e; exact new
    · rw [upd_ne hb] at e
      exact (I.hok b u e).stay (fun c v _ q => q) (fun c q => by rw [upd_ne (ne q)]; exact q) fun c xs q => by rw [upd_ne (ne q)]; exact q
end L2
set_option maxRecDepth 100000
set_option maxHeartbeats 1600000
namespace L2
open PySem PySem.Spec PyProof.Rows LS
section
variable {X : Cx} {tg iter elt tst : Expr} {scope : Scope} {N : List Str} {js : List (Option Nat)} {pos : Pos}
end
end L2
set_option maxRecDepth 100000
set_option maxHeartbeats 1600000
namespace L2
open PySem PySem.Spec PyProof.Rows LS
section
variable {X : Cx}
end
end L2
set_option maxRecDepth 100000
set_option maxHeartbeats 1600000
namespace LS
open PySem PySem.Spec PyProof.Rows L2
def two : Option (Int × Tok) → Array Value
  | none => #[]
  | some (m, t) => #[.int m t, .int m t]
section
variable {prog : Program} {w : World} {A : Around} {E : Value → Shared → Prop} {s : Shared} {R : Result → Shared → Prop}
end
end LS
set_option maxRecDepth 100000
set_option maxHeartbeats 1600000
namespace L2
open PySem PySem.Spec PyProof.Rows LS
section
variable {X : Cx}
end
end L2
set_option maxRecDepth 100000
set_option maxHeartbeats 1600000
namespace L2
open PySem PySem.Spec PyProof.Rows LS
theorem call_listK {X : Cx} (K : PySem.W.Frag) (hK : X.K = K := by rfl) : CallR X (.type "list") (fun xs H Q => ∃ p ys, xs = [.ref p] ∧ SqL K H p ys ∧ ∀ l, H l = none → Q (.ref l) (upd H l (.lst ys))) := by
  subst hK
  intro pins s σ H xs us Q I r h
  obtain ⟨p, ys, e, hq, q⟩ := h
  exact call_list_of pins s σ H xs us Q I r ⟨p, ys, e, .inl hq, q⟩
end L2
set_option maxRecDepth 100000
set_option maxHeartbeats 1600000
namespace L2
open PySem PySem.Spec PyProof.Rows LS
section
variable {X : Cx} {tg : Expr}
end
end L2
set_option maxRecDepth 100000
set_option maxHeartbeats 1600000
namespace L2
open PySem PySem.Spec PyProof.Rows LS
theorem Inv.turnedL {X : Cx} {pins : List (Addr × Obj)} {σ : St} {H : Hp} {s : Shared} {h' : Heap} {t' : Nat} (ch : List Addr) (I : Inv X pins σ H s) (k : ∀ b o, b ∉ ch → s.heap.get? b = some o → h'.get? b = some o) (f : ∀ b ∈ ch, FpOk X pins H b) : Inv X pins σ H { s with heap := h', toks := t' } := by
  have nit : ∀ b u, H b = some u → b ∉ ch := fun b u e z => by rw [(f b z).1] at e; cases e
  refine I.step (g' := s.gens) (d' := s.drawn) (ch := ch) (fun b hb => ⟨(f b hb).2.2.2.1, (f b hb).2.1, (f b hb).2.2.2.2.1, (f b hb).2.2.2.2.2⟩) (fun b o _ _ hc e _ => k b o hc e) (fun b o _ _ hc e _ => ⟨o.slots, k b o hc e⟩) (fun _ _ _ _ n => n)
    (fun b o hc e => ⟨o, k b o hc e⟩) (fun _ _ e => e) (fun _ _ _ e => e) (fun b ps e => ⟨#[], by rw [e]; simp⟩) (fun m hm => ?_) (fun b u e => ?_) I.bare
  · obtain ⟨o, es, ep, ho, r⟩ := hm
    exact ⟨o, es, ep, k _ o (fun z => (f _ z).2.1 rfl) ho, r⟩
  · refine (I.hok b u e).stay (fun c v hc q => k c v ?_ q) (fun _ q => q) fun _ _ q => q
    rcases hc with z | z
    · rw [z]; exact nit b u e
    · exact nit c _ z
def Itz (K : PySem.W.Frag) (l1 l2 : Addr) : It := ⟨fun i H => ∃ xs ys x y, SqL K H l1 xs ∧ SqL K H l2 ys ∧ xs[i]? = some x ∧ ys[i]? = some y,
  fun i H v H' => ∃ p x y, v = .ref p ∧ H p = none ∧ (∀ xs, SqL K H l1 xs → xs[i]? = some x) ∧ (∀ ys, SqL K H l2 ys → ys[i]? = some y) ∧ H' = upd H p (.tup [x, y]),
  fun i H => ∃ xs ys, SqL K H l1 xs ∧ SqL K H l2 ys ∧ (xs.length ≤ i ∨ ys.length ≤ i)⟩
structure Five (z a b c d : Addr) : Prop where
  az : a ≠ z
  bz : b ≠ z
  cz : c ≠ z
  dz : d ≠ z
  ab : a ≠ b
  ac : a ≠ c
  ad : a ≠ d
  bc : b ≠ c
  bd : b ≠ d
  cd : c ≠ d
def ZipSt (z TI TO i1 i2 l1 l2 : Addr) (i : Nat) (h : Heap) : Prop := IsZip h z TI TO .none ∧ IsPair h TI (.ref i1) (.ref i2) ∧ (∃ a b, IsPair h TO a b) ∧ h.IsListIter i1 l1 i ∧ h.IsListIter i2 l2 i
theorem zip_apart {h : Heap} {z TI TO i1 i2 l1 l2 : Addr} {i : Nat} {xs ys : Array Value} (F : Five z TI TO i1 i2) (st : ZipSt z TI TO i1 i2 l1 l2 i h) (p1 : h.IsList l1 xs) (p2 : h.IsList l2 ys) : ZipApart z TI TO i1 i2 l1 l2 := by
  obtain ⟨hz, hTI, ⟨a, b, hTO⟩, ⟨o1, e1, c1, _⟩, ⟨o2, e2, c2, _⟩⟩ := st
  have ne : ∀ {l c : Addr} {v : Array Value} {o : Obj} {n : String}, h.IsList l v → h.get? c = some o → o.cls = .type n → n ≠ "list" → l ≠ c := fun {l c v o n} hl hc hn hne z => by
    obtain ⟨ol, el, cl, _⟩ := hl
    subst z
    rw [hc] at el
    cases el
    rw [hn] at cl
    exact hne (by injection cl)
  exact ⟨F.az, F.bz, F.cz, F.dz, F.ab, F.ac, F.ad, F.bc, F.bd, F.cd, ne p1 hz rfl (by decide), ne p1 hTO rfl (by decide), ne p1 e1 c1 (by decide), ne p1 e2 c2 (by decide), ne p2 hz rfl (by decide), ne p2 hTO rfl (by decide), ne p2 e1 c1 (by decide), ne p2 e2 c2 (by decide)⟩
theorem turn_zip {P : Program} {w : World} {K : PySem.W.Frag} {elts : List Expr} {x1} {tpos : Pos} {z TI TO i1 i2 l1 l2 : Addr} (F : Five z TI TO i1 i2) : Turn P w K (.Tuple elts x1 tpos) (Itz K l1 l2) [z, TI, TO, i1, i2] z (ZipSt z TI TO i1 i2 l1 l2) where
  mem := by simp
  obj := fun i h st b hb => by
    obtain ⟨hz, hTI, ⟨a, c, hTO⟩, ⟨o1, e1, c1, d1⟩, ⟨o2, e2, c2, d2⟩⟩ := st
    simp only [List.mem_cons, List.not_mem_nil, or_false] at hb
    rcases hb with rfl | rfl | rfl | rfl | rfl
    · exact ⟨_, hz, fun v z => by cases z⟩
    · exact ⟨_, hTI, fun v z => by cases z⟩
    · exact ⟨_, hTO, fun v z => by cases z⟩
    · exact ⟨_, e1, fun v z => by rw [d1] at z; cases z⟩
    · exact ⟨_, e2, fun v z => by rw [d2] at z; cases z⟩
  keep := fun i h h' st k => by
    obtain ⟨hz, hTI, ⟨a, c, hTO⟩, ⟨o1, e1, c1⟩, ⟨o2, e2, c2⟩⟩ := st
    exact ⟨k _ (by simp) _ hz, k _ (by simp) _ hTI, ⟨a, c, k _ (by simp) _ hTO⟩, ⟨o1, k _ (by simp) _ e1, c1⟩, ⟨o2, k _ (by simp) _ e2, c2⟩⟩
  item := by
    intro X hP hw hK hc i pins s σ H E I hf st hg
    subst hP hw hK
    obtain ⟨xs, ys, x, y, q1, q2, hx, hy⟩ := hg
    obtain ⟨its, rv, p1, _⟩ := I.list q1
    obtain ⟨jts, rw', p2, _⟩ := I.list q2
    obtain ⟨u, hu, ru⟩ := rv.get hx
    obtain ⟨v, hv, rv'⟩ := rw'.get hy
    have D := zip_apart F st p1.isList p2.isList
    obtain ⟨hz, hTI, ⟨a, c, hTO⟩, h1, h2⟩ := st
    refine wpAny_pyNext_zip_item D hz hTI hTO h1 h2 p1.isList p2.isList (x := u) (y := v) (by simpa using hu) (by simpa using hv) fun h' a1 a2 a3 a4 a5 a6 a7 => ?_
    refine ⟨_, rfl, wpAny_letOwnedTupleGo_zip (s := { s with heap := h' }) a1 fun h2' b1 sb => ?_⟩
    have sb : Heap.SameBut z h' h2' := sb
    have ne : ∀ {b o}, s.heap.get? b = some o → s.heap.objs.size ≠ b := fun e => Nat.ne_of_gt (Heap.lt_size e)
    have I1 : Inv X pins σ H { s with heap := h2' } := Inv.turnedL (t' := s.toks) [z, TI, TO, i1, i2] I (fun b o hb e => (sb.2 b (fun q => hb (by simp [q]))).trans (a7 b o (fun q => hb (by simp [q])) (fun q => hb (by simp [q])) (fun q => hb (by simp [q])) (fun q => hb (by simp [q])) e)) hf
    have hn : H s.heap.objs.size = none := I.hok.fresh (Nat.le_refl _)
    have ht : h2'.get? s.heap.objs.size = some { cls := .type "tuple", data := .seq #[u, v] } := (sb.2 _ (ne hz)).trans a5
    refine ⟨.ref s.heap.objs.size, upd H s.heap.objs.size (.tup [x, y]), ?_, rfl, ⟨_, x, y, rfl, hn, fun zs q => by rw [I.list_inj q q1]; exact hx, fun zs q => by rw [I.list_inj q q2]; exact hy, rfl⟩, ?_, fun b hb => ?_⟩
    · exact I1.trackF (I.fpOk (Nat.le_refl _) hn) I.sz ⟨by show 2 ≤ sizeLine; decide, [u, v], .cons ru (.cons rv' .nil), _, ht, rfl, _, rfl⟩
    · obtain ⟨o1, e1, c1⟩ := a3
      obtain ⟨o2, e2, c2⟩ := a4
      exact ⟨b1, (sb.2 _ F.az).trans (a7 _ _ F.az F.ab F.ac F.ad hTI), ⟨u, v, (sb.2 _ F.bz).trans a2⟩, ⟨o1, (sb.2 _ F.cz).trans e1, c1⟩, ⟨o2, (sb.2 _ F.dz).trans e2, c2⟩⟩
    · have old : b ≠ s.heap.objs.size := by
        obtain ⟨o1, e1, c1⟩ := h1
        obtain ⟨o2, e2, c2⟩ := h2
        simp only [List.mem_cons, List.not_mem_nil, or_false] at hb
        rcases hb with rfl | rfl | rfl | rfl | rfl
        · exact (ne hz).symm
        · exact (ne hTI).symm
        · exact (ne hTO).symm
        · exact (ne e1).symm
        · exact (ne e2).symm
      rw [upd_ne old]; exact (hf b hb).1
  done := by
    intro X hP hw hK hc i pins s σ H E I hf st hg
    subst hP hw hK
    obtain ⟨xs, ys, q1, q2, hend⟩ := hg
    obtain ⟨its, rv, p1, _⟩ := I.list q1
    obtain ⟨jts, rw', p2, _⟩ := I.list q2
    have D := zip_apart F st p1.isList p2.isList
    obtain ⟨hz, hTI, ⟨a, c, hTO⟩, h1, h2⟩ := st
    refine wpAny_pyNext_zip_end (I.ok.hd hc) D hz hTI hTO h1 h2 p1.isList p2.isList ?_ fun h' k => ⟨rfl, Inv.turnedL (t' := s.toks) [z, TI, TO, i1, i2] I (fun b o hb e => k b o (fun q => hb (by simp [q])) (fun q => hb (by simp [q])) (fun q => hb (by simp [q])) (fun q => hb (by simp [q])) e) hf⟩
    have r1 := rv.length
    have r2 := rw'.length
    rcases hend with q | q
    · exact .inl (by simp; omega)
    · exact .inr (by simp; omega)
  self := fun _ _ _ _ _ st h => wpAny_pyIter_zip st.1 h
def iZip (K : PySem.W.Frag) (ta : TA) : TI := fun σ H R => ta σ H fun vs H1 => ∃ a b xs ys, vs = [.ref a, .ref b] ∧ SqL K H1 a xs ∧ SqL K H1 b ys ∧ R (Itz K a b) H1
theorem boot_zip : bootBuiltins "zip" = Option.some (Value.type "zip") := by decide +kernel
theorem pi_zip {X : Cx} {elts : List Expr} {x1} {tpos : Pos} {a b : Expr} {ta : TA} {p pos : Pos} (K : PySem.W.Frag) (hg : Gl X "zip") (hm : X.mg "zip" = none) (ha : PA X [a, b] ta) (hK : X.K = K := by rfl) (he : starEach [a, b] X.env = (false, eval a X.env) :: starEach [b] X.env := by rfl) (hp : (backTo pos (starEach [b] X.env)).any (·.1) = false := by rfl) :
    PI X (.Tuple elts x1 tpos) (.Call (.Name "zip" p) [a, b] [] pos) (iZip K ta) := by
  subst hK
  intro pins s σ H R I h
  refine wpAny_Call_Name_kw (ld_blt I hg hm boot_zip (PyProof.Rows.callWith_type1 (thn (ha pos pins s σ H _ I h) fun us s1 ⟨vs, H1, I1, r1, q1⟩ => ?_) he hp))
  obtain ⟨l1, l2, xs, ys, e, q1, q2, q⟩ := q1
  subst e
  cases r1 with
  | cons r rr =>
    cases rr with
    | cons r' rr =>
      cases rr
      cases r
      cases r'
      obtain ⟨its, rv, p1, _⟩ := I1.list q1
      obtain ⟨jts, rw', p2, _⟩ := I1.list q2
      refine call_zip_2 p1.isList p2.isList fun h' a1 a2 a3 a4 a5 a6 a7 => ?_
      have ne : ∀ {i j : Nat}, i ≠ j → s1.heap.objs.size + i ≠ s1.heap.objs.size + j := fun h z => h (Nat.add_left_cancel z)
      have n0 : ∀ {j : Nat}, 0 ≠ j → s1.heap.objs.size ≠ s1.heap.objs.size + j := fun h z => h (Nat.add_left_cancel (show s1.heap.objs.size + 0 = _ from z))
      refine wpAny_pyIter_zip (s := { s1 with heap := h' }) a1 ⟨s1.heap.objs.size + 4, [s1.heap.objs.size + 4, s1.heap.objs.size + 2, s1.heap.objs.size + 3, s1.heap.objs.size, s1.heap.objs.size + 1], _, _, H1, rfl, I1.kept (t' := s1.toks) a7, turn_zip (l1 := l1) (l2 := l2) ⟨ne (by decide), ne (by decide), n0 (by decide), ne (by decide), ne (by decide), (n0 (by decide)).symm, ne (by decide), (n0 (by decide)).symm, ne (by decide), n0 (by decide)⟩, ⟨a1, a2, ⟨_, _, a3⟩, a4, a5⟩, fun c hc => ?_, q⟩
      have big : s1.heap.objs.size ≤ c := by
        simp only [List.mem_cons, List.not_mem_nil, or_false] at hc
        rcases hc with e | e | e | e | e <;> (rw [e]; first | exact Nat.le_add_right _ _ | exact Nat.le_refl _)
      exact I1.fpOk big (I1.hok.fresh big)
theorem for_zip {K : PySem.W.Frag} {a b : Addr} {xs ys : List V} {g : TG} {tb : TS} {D : Ends} {σ : St} {H : Hp} (Pv : Nat → St → Hp → Prop) (len : xs.length = ys.length) (h0 : Pv 0 σ H) (hl : ∀ i σ H, i ≤ xs.length → Pv i σ H → SqL K H a xs ∧ SqL K H b ys)
    (hs : ∀ i x y p σ H, xs[i]? = some x → ys[i]? = some y → Pv i σ H → H p = none → g (.ref p) σ (upd H p (.tup [x, y])) fun σ2 H2 => tb { D with nx := Pv (i + 1), ct := Pv (i + 1), bk := D.nx } σ2 H2) (hd : ∀ σ H, Pv xs.length σ H → D.nx σ H) :
    ∃ W : Nat → Nat → St → Hp → Prop, (∃ m, W 0 m σ H) ∧ ∀ i m σ H, W i m σ H →
      ((Itz K a b).stop i H ∧ D.nx σ H) ∨ ((Itz K a b).go i H ∧ ∃ N : St → Hp → Prop, (∀ σ' H', N σ' H' → ∃ m', m' < m ∧ W (i + 1) m' σ' H') ∧ ∀ v H', (Itz K a b).yld i H v H' → g v σ H' fun σ2 H2 => tb { D with nx := N, ct := N, bk := D.nx } σ2 H2) := by
  refine ⟨fun i m σ H => m = xs.length - i ∧ i ≤ xs.length ∧ Pv i σ H, ⟨xs.length, by simp, Nat.zero_le _, h0⟩, ?_⟩
  rintro i m σ H ⟨rfl, hi, p⟩
  obtain ⟨qa, qb⟩ := hl i σ H hi p
  by_cases hlt : i < xs.length
  · have hlt2 : i < ys.length := by omega
    refine .inr ⟨⟨xs, ys, xs[i], ys[i], qa, qb, by simp [hlt], by simp [hlt2]⟩, Pv (i + 1), fun σ' H' p' => ⟨xs.length - (i + 1), by omega, rfl, hlt, p'⟩, fun v H' y => ?_⟩
    obtain ⟨r, x, y, e, hr, h1, h2, e2⟩ := y
    subst e e2
    exact hs i x y r σ _ (h1 xs qa) (h2 ys qb) p hr
  · have e : i = xs.length := by omega
    subst e
    exact .inl ⟨⟨xs, ys, qa, qb, .inl (Nat.le_refl _)⟩, hd σ H p⟩
end L2
set_option maxRecDepth 100000
set_option maxHeartbeats 1600000
namespace L2
open PySem PySem.Spec PyProof.Rows LS
end L2
set_option maxRecDepth 100000
set_option maxHeartbeats 1600000
namespace L2
open PySem PySem.Spec PyProof.Rows LS PySem.SeqAt
mutual
inductive IsD8 (K : PySem.W.Frag) (H : Hp) : V → PyData → Prop
  | non : IsD8 K H .non .none
  | bl (b) : IsD8 K H (.bl b) (.bool b)
  | int (i) : IsD8 K H (.int i) (.int i)
  | str (x) : IsD8 K H (.str x) (.str x)
  | lst {a xs ds} : SqL K H a xs → AreD8 K H xs ds → IsD8 K H (.ref a) (.list ds)
  | tup {a xs ds} : SqT K H a xs → AreD8 K H xs ds → IsD8 K H (.ref a) (.tuple ds)
inductive AreD8 (K : PySem.W.Frag) (H : Hp) : List V → List PyData → Prop
  | nil : AreD8 K H [] []
  | cons {x xs d ds} : IsD8 K H x d → AreD8 K H xs ds → AreD8 K H (x :: xs) (d :: ds)
end
section
variable {X : Cx} {pins : List (Addr × Obj)} {σ : St} {H : Hp} {s : Shared}
end
end L2
set_option maxRecDepth 100000
set_option maxHeartbeats 1600000
namespace L2
open PySem PySem.Spec PyProof.Rows LS PySem.SeqAt
mutual
inductive Al (K : PySem.W.Frag) (H : Hp) : Nat → V → V → Prop
  | non {n} : Al K H n .non .non
  | bl {n} (b) : Al K H n (.bl b) (.bl b)
  | int {n} (i) : Al K H n (.int i) (.int i)
  | str {n} (x) : Al K H n (.str x) (.str x)
  | ref {n} (a) : Al K H n (.ref a) (.ref a)
  | lst {n a b xs ys} : SqL K H a xs → SqL K H b ys → Als K H n xs ys → Al K H (n + 1) (.ref a) (.ref b)
inductive Als (K : PySem.W.Frag) (H : Hp) : Nat → List V → List V → Prop
  | nil {n} : Als K H n [] []
  | cons {n x y xs ys} : Al K H n x y → Als K H n xs ys → Als K H n (x :: xs) (y :: ys)
end
theorem Als.length {K : PySem.W.Frag} {H : Hp} {n : Nat} : ∀ {xs ys : List V}, Als K H n xs ys → xs.length = ys.length
  | _, _, .nil => rfl
  | _, _, .cons _ t => by simp [Als.length t]
section
variable {X : Cx} {pins : List (Addr × Obj)} {σ : St} {H : Hp} {s : Shared}
mutual
theorem Al.eqAt (I : Inv X pins σ H s) : ∀ {n : Nat} {x y : V}, Al X.K H n x y → ∀ {u v : Value}, RelV x u → RelV y v → ∀ {A : Around}, A.units + n < cLine → EqAt A s u v true
  | _, _, _, .non, u, v, r1, r2, A, _ => by cases (show u = Value.none from r1); cases (show v = Value.none from r2); exact EqAt.same _
  | _, _, _, .bl b, u, v, r1, r2, A, _ => by cases (show u = Value.bool b from r1); cases (show v = Value.bool b from r2); exact EqAt.same _
  | _, _, _, .int i, u, v, r1, r2, A, _ => by
    obtain ⟨t, e⟩ := (show ∃ t, u = Value.int i t from r1); obtain ⟨t', e'⟩ := (show ∃ t, v = Value.int i t from r2); subst e e'
    have := EqAt.int_int (A := A) (s := s) i t i t'
    rwa [beq_self_eq_true] at this
  | _, _, _, .str x, u, v, r1, r2, A, _ => by
    obtain ⟨t, e⟩ := (show ∃ t, u = Value.str x t from r1); obtain ⟨t', e'⟩ := (show ∃ t, v = Value.str x t from r2); subst e e'
    have := EqAt.str_str (A := A) (s := s) x t x t'
    rwa [beq_self_eq_true] at this
  | _, _, _, .ref a, u, v, r1, r2, A, _ => by cases r1; cases r2; exact EqAt.same _
  | _, _, _, .lst (n := n) (a := a) (b := b) (xs := xs) (ys := ys) sa sb h, u, v, r1, r2, A, hu => by
    cases r1
    cases r2
    by_cases e : a = b
    · subst e; exact EqAt.same _
    · obtain ⟨its, v1, p1, _⟩ := I.list sa
      obtain ⟨jts, v2, p2, _⟩ := I.list sb
      have l := h.length
      have k1 := v1.length
      have k2 := v2.length
      have := RcAt.lists (A := A) (s := s) (e := fun _ => true) p1.isList p2.isList (by simp; omega) (by omega) fun j h1 h2 => by
        simpa using Als.eqAt I h v1 v2 (A := A.in1) (by rw [Around.in1_units]; omega) j (by simpa using h1) (by simpa using h2)
      rw [show ((List.range its.toArray.size).all fun _ => true) = true by simp] at this
      exact EqAt.of_refs e this
theorem Als.eqAt (I : Inv X pins σ H s) : ∀ {n : Nat} {xs ys : List V}, Als X.K H n xs ys → ∀ {us vs : List Value}, Vals xs us → Vals ys vs → ∀ {A : Around}, A.units + n < cLine → ∀ (j : Nat) (h1 : j < us.length) (h2 : j < vs.length), EqAt A s us[j] vs[j] true
  | _, _, _, .nil, us, vs, r1, r2, A, _, j, h1, h2 => by cases r1; simp at h1
  | _, _, _, .cons h t, us, vs, r1, r2, A, hu, j, h1, h2 => by
    cases r1 with
    | cons a1 b1 =>
      cases r2 with
      | cons a2 b2 =>
        cases j with
        | zero => exact Al.eqAt I h a1 a2 hu
        | succ j => simpa using Als.eqAt I t b1 b2 hu j (by simpa using h1) (by simpa using h2)
end
end
theorem op_neA {X : Cx} (K : PySem.W.Frag) (hu : X.A.units + 64 < cLine) (hK : X.K = K := by rfl) : OpR X (compareOp .NotEq) (fun x y H Q => ∃ n a b xs ys, n ≤ 60 ∧ x = .ref a ∧ y = .ref b ∧ SqL K H a xs ∧ SqL K H b ys ∧ Als K H n xs ys ∧ Q (.bl false) H) := by
  subst hK
  intro pins s σ H x y v u Q I rx ry h
  obtain ⟨n, a, b, xs, ys, hn, rfl, rfl, ha, hb, h, q⟩ := h
  cases rx
  cases ry
  obtain ⟨its, v1, p1, _⟩ := I.list ha
  obtain ⟨jts, v2, p2, _⟩ := I.list hb
  have l := h.length
  have k1 := v1.length
  have k2 := v2.length
  have := RcNeAt.lists (A := X.A) (s := s) (e := fun _ => true) p1.isList p2.isList (by simp; omega) (by omega) fun j h1 h2 => by
    simpa using Als.eqAt I h v1 v2 (A := X.A.in1) (by rw [Around.in1_units]; omega) j (by simpa using h1) (by simpa using h2)
  rw [show (!((List.range its.toArray.size).all fun _ => true)) = false by simp] at this
  exact this X.prog X.w X.xe _ ⟨.bl false, H, I, rfl, q⟩
end L2
set_option maxRecDepth 100000
set_option maxHeartbeats 1600000
namespace L2
open PySem PySem.Spec PyProof.Rows LS
def tTryN (K : PySem.W.Frag) (c : Value) (tb : XK → TS) (ts : TS) : TS := fun D σ H => tb (fun cls dx H' => PySem.W.exmOne K cls c = some true ∧ ∀ ea, H' ea = none → ts D σ (upd H' ea (excAt ea cls dx))) D σ H
theorem ps_tryN {X : Cx} {body : List Stmt} {tb : XK → TS} {ts : TS} {cn : Str} {C : Addr} {b0 : Stmt} {suite : List Stmt} {np hpos pos : Pos} (K : PySem.W.Frag) (hx : X.ex = []) (hst : X.stack = X.env :: X.outer) (hfr : X.env.frame = some X.env.locals) (hb : PB X body tb)
    (hg : Gl X cn) (hm : X.mg cn = some (.ref C)) (hs : ∀ ea, PSs (X.hand ea) (b0 :: suite) ts) (hK : X.K = K := by rfl) (hdb : (cn == ("__debug__" : Str)) = false := by decide) :
    PS X (.Try body [.ExceptHandler (some (.Name cn np)) none (b0 :: suite) hpos] [] [] pos) (tTryN K (.ref C) tb ts) := by
  subst hK
  intro pins s σ H D I h
  refine wpAny_Try_except (wpAny_mono (hb pins s σ H D _ I h) (fun fl s1 q => ?_) fun ev s1 z => ?_)
  · cases fl with
    | next =>
      obtain ⟨σ', H', I', q⟩ := q
      exact wpAny_execs_nil ⟨σ', H', I', q⟩
    | ret v => exact q
    | brk => exact q
    | cont => exact q
  obtain ⟨ea, T, cls, dx, H1, rfl, I1, a1, a2, fly, hcl, hsu⟩ := z
  have stk : ∀ {s : Shared} {σ : St} {H : Hp}, Inv X pins σ H s → s.heap.FunFrames X.base (X.env :: X.outer) := fun {s σ H} I => by have := I.stack; rw [hst] at this; exact this
  have two : ∀ {T : Addr}, Apart X pins H1 T → ∀ b ∈ [ea, T], Apart X pins H1 b := fun {T} aT b hb => by
    rcases List.mem_cons.mp hb with e | hb
    · subst e; exact a1
    · rw [List.mem_singleton] at hb; subst hb; exact aT
  refine look_on (base := X.base) (outer := X.outer) (by rw [I1.ok.frames, hst]) (stk I1) hfr fly fun h2 T2 fly2 nT2 mv2 => ?_
  rw [← hst] at mv2
  have I2 := I1.moved' mv2 (two a2)
  have aT2 : Apart X pins H1 T2 := I1.apart hx nT2
  obtain ⟨oe, vs, oT, tvs, a0, e1, e2, e3, e4, _⟩ := id fly2
  have LT : PySem.W.Looks (model X.prog X.w) ({ s1 with heap := h2 } : Shared).heap (typeOf (.ref ea)) cls := by
    subst e2
    exact (PySem.W.Looks.ld e1).andThen .now
  refine wpAny_handleBy_cons (codeAny_handlers_test ?_) (by intro q; cases q)
  refine ld_glob (X := X.hand ea) (I2.hand ea) hg hm ?_ hdb
  refine (PySem.W.exm_one I2.kIn LT hcl).here ?_
  refine codeAny_handlers_suite ?_
  refine flight_off (s := { s1 with heap := h2 }) fly2 fun h3 fly3 same => ?_
  have I3 := I2.moved' (Moved.one same) fun b hb => by rw [List.mem_singleton] at hb; rw [hb]; exact aT2
  obtain ⟨oe3, vs3, _, _, _, f1, f2, f3, f4, _⟩ := id fly3
  have I4 := I3.track a1 ⟨oe3, vs3, f1, f2, f3, f4⟩
  refine wpAny_mono (hs ea pins _ _ _ D (I4.hand ea) (hsu ea a1.trk)) (fun fl s6 q => ?_) fun _ _ z => z.elim
  have okX := I.ok
  cases fl with
  | next => obtain ⟨σ', H', I', q⟩ := q; exact ⟨σ', H', I'.unhand okX, q⟩
  | brk => obtain ⟨σ', H', I', q⟩ := q; exact ⟨σ', H', I'.unhand okX, q⟩
  | cont => obtain ⟨σ', H', I', q⟩ := q; exact ⟨σ', H', I'.unhand okX, q⟩
  | ret u => obtain ⟨v, σ', H', I', r, q⟩ := q; exact ⟨v, σ', H', I'.unhand okX, r, q⟩
end L2
set_option maxRecDepth 100000
set_option maxHeartbeats 1600000
namespace L2
open PySem PySem.Spec PyProof.Rows LS PySem.SeqAt
section
variable {X : Cx}
end
end L2
set_option maxRecDepth 100000
set_option maxHeartbeats 1600000
namespace L2
open PySem PySem.Spec PyProof.Rows LS
theorem hu1 {A : Around} {k : Nat} (hr : Room k A) : A.units + 1 < cLine := Nat.lt_of_le_of_lt (Nat.add_le_add_left (by decide) _) hr.units
end L2
set_option maxRecDepth 100000
set_option maxHeartbeats 1600000
namespace LS
open PySem PySem.Spec PyProof.Rows L2
section
variable {prog : Program} {w : World} {A : Around} {E : Value → Shared → Prop} {s : Shared}
end
end LS
namespace L2
open PySem PySem.Spec PyProof.Rows LS
end L2
namespace L2
open PySem PySem.Spec PyProof.Rows LS
section
variable {X : Cx} {tg iter elt tst : Expr} {scope : Scope} {pos : Pos}
end
end L2
set_option maxRecDepth 100000
set_option maxHeartbeats 3200000
namespace LS
open PySem PySem.W PyProof.Rows
section
variable {prog : Program} {w : World} {A : Around} {E : Value → Shared → Prop} {s : Shared}
end
end LS
namespace L2
open PySem PySem.Spec PyProof.Rows LS
section
variable {X : Cx} {pins : List (Addr × Obj)} {σ : St} {H : Hp} {s : Shared}
end
end L2
set_option maxRecDepth 100000
set_option maxHeartbeats 3200000
namespace LS
open PySem PySem.W PyProof.Rows
def txt : Value → Option Str
  | .str k _ => some k
  | _ => none
structure SetXAt (prog : Program) (w : World) (ks : List Str) (es : Array (Int × Value)) (t : SetTable) : Prop where
  el : ElemsOf (_root_.PySem.strKind prog w) es.toList
  tx : es.toList.map (fun e => txt e.2) = ks.map some
  fit : t.fits es.size = true
  fl : Flags w es.size t
  len : ks.length ≤ 64
section
variable {prog : Program} {w : World} {A : Around} {E : Value → Shared → Prop} {s : Shared}
theorem SetXAt.size {ks : List Str} {es : Array (Int × Value)} {t : SetTable} (S : SetXAt prog w ks es t) : es.size = ks.length := by
  have := congrArg List.length S.tx
  simpa using this
end
section
variable {prog : Program} {w : World} {A : Around} {E : Value → Shared → Prop} {s : Shared} {R : Result → Shared → Prop}
end
end LS
namespace L2
open PySem PySem.Spec PyProof.Rows LS
section
variable {X : Cx}
end
end L2
set_option maxRecDepth 100000
set_option maxHeartbeats 3200000
namespace LS
open PySem PySem.W PyProof.Rows
section
variable {prog : Program} {w : World} {A : Around} {E : Value → Shared → Prop} {s : Shared}
end
end LS
namespace L2
open PySem PySem.Spec PyProof.Rows LS
section
variable {X : Cx}
end
def Ite (K : PySem.W.Frag) (l : Addr) : It := ⟨fun i H => ∃ xs x, SqL K H l xs ∧ xs[i]? = some x,
  fun i H v H' => ∃ p x, v = .ref p ∧ H p = none ∧ (∀ xs, SqL K H l xs → xs[i]? = some x) ∧ H' = upd H p (.tup [.int i, x]),
  fun i H => ∃ xs, SqL K H l xs ∧ xs.length ≤ i⟩
def EnSt (e it l : Addr) (i : Nat) (h : Heap) : Prop := (∃ old, IsEnum h e it i old) ∧ h.IsListIter it l i
theorem turn_enum {P : Program} {w : World} {K : PySem.W.Frag} {elts : List Expr} {x1} {tpos : Pos} {e it l : Addr} (ne : it ≠ e) : Turn P w K (.Tuple elts x1 tpos) (Ite K l) [e, it] e (EnSt e it l) where
  mem := by simp
  obj := fun i h st b hb => by
    obtain ⟨⟨old, he⟩, ⟨o1, e1, c1, d1⟩⟩ := st
    simp only [List.mem_cons, List.not_mem_nil, or_false] at hb
    rcases hb with rfl | rfl
    · exact ⟨_, he, fun v z => by cases z⟩
    · exact ⟨_, e1, fun v z => by rw [d1] at z; cases z⟩
  keep := fun i h h' st k => by
    obtain ⟨⟨old, he⟩, ⟨o1, e1, c1⟩⟩ := st
    exact ⟨⟨old, k _ (by simp) _ he⟩, ⟨o1, k _ (by simp) _ e1, c1⟩⟩
  item := by
    intro X hP hw hK hc i pins s σ H E I hf st hg
    subst hP hw hK
    obtain ⟨xs, x, q1, hx⟩ := hg
    obtain ⟨its, rv, p1, _⟩ := I.list q1
    obtain ⟨u, hu, ru⟩ := rv.get hx
    obtain ⟨⟨old, he⟩, hit⟩ := st
    refine wpAny_pyNext_enum_item he hit p1.isList (x := u) (by simpa using hu) (Ne.symm ne) fun h' a1 a2 a3 a4 a5 => ?_
    refine ⟨_, rfl, wpAny_letOwnedTupleGo_enum (s := { s with heap := h', toks := s.toks + 1 }) a1 fun h2 b1 sb => ?_⟩
    have sb : Heap.SameBut e h' h2 := sb
    have hn : H s.heap.objs.size = none := I.hok.fresh (Nat.le_refl _)
    have I1 : Inv X pins σ H { s with heap := h2, toks := s.toks + 1 } := Inv.turnedL (t' := s.toks + 1) [e, it] I (fun b o hb q => (sb.2 b (fun z => hb (by simp [z]))).trans (a5 b o (fun z => hb (by simp [z])) (fun z => hb (by simp [z])) q)) hf
    have ht : h2.get? s.heap.objs.size = some { cls := .type "tuple", data := .seq #[.int i s.toks, u] } := (sb.2 _ (Nat.ne_of_gt (Heap.lt_size he))).trans a3
    refine ⟨.ref s.heap.objs.size, upd H s.heap.objs.size (.tup [.int i, x]), ?_, rfl, ⟨_, x, rfl, hn, fun zs q => by rw [I.list_inj q q1]; exact hx, rfl⟩, ?_, fun b hb => ?_⟩
    · exact I1.trackF (I.fpOk (Nat.le_refl _) hn) I.sz ⟨by show 2 ≤ sizeLine; decide, [.int i s.toks, u], .cons ⟨s.toks, rfl⟩ (.cons ru .nil), _, ht, rfl, _, rfl⟩
    · obtain ⟨o1, e1, c1⟩ := a2
      exact ⟨⟨u, b1⟩, ⟨o1, (sb.2 _ ne).trans e1, c1⟩⟩
    · have old : b ≠ s.heap.objs.size := by
        obtain ⟨o1, e1, c1⟩ := hit
        simp only [List.mem_cons, List.not_mem_nil, or_false] at hb
        rcases hb with rfl | rfl
        · exact Nat.ne_of_lt (Heap.lt_size he)
        · exact Nat.ne_of_lt (Heap.lt_size e1)
      rw [upd_ne old]; exact (hf b hb).1
  done := by
    intro X hP hw hK hc i pins s σ H E I hf st hg
    subst hP hw hK
    obtain ⟨xs, q1, hend⟩ := hg
    obtain ⟨its, rv, p1, _⟩ := I.list q1
    obtain ⟨⟨old, he⟩, hit⟩ := st
    have r1 := rv.length
    refine wpAny_pyNext_enum_end (I.ok.hd hc) he hit p1.isList (Array.getElem?_eq_none (by simp; omega)) fun h' k => ⟨rfl, Inv.turnedL (t' := s.toks) [e, it] I (fun b o hb q => k b o (fun z => hb (by simp [z])) q) hf⟩
  self := fun _ _ _ _ _ st h => by
    obtain ⟨⟨old, he⟩, _⟩ := st
    exact wpAny_pyIter_enum he h
def iEnum (K : PySem.W.Frag) (ta : TA) : TI := fun σ H R => ta σ H fun vs H1 => ∃ a xs, vs = [.ref a] ∧ SqL K H1 a xs ∧ R (Ite K a) H1
theorem boot_enumerate : bootBuiltins "enumerate" = Option.some (Value.type "enumerate") := by decide +kernel
theorem pi_enum {X : Cx} {elts : List Expr} {x1} {tpos : Pos} {a : Expr} {ta : TA} {p pos : Pos} (K : PySem.W.Frag) (hg : Gl X "enumerate") (hm : X.mg "enumerate" = none) (ha : PA X [a] ta) (hK : X.K = K := by rfl) (he : starEach [a] X.env = (false, eval a X.env) :: starEach [] X.env := by rfl) (hp : (backTo pos (starEach [] X.env)).any (·.1) = false := by rfl) :
    PI X (.Tuple elts x1 tpos) (.Call (.Name "enumerate" p) [a] [] pos) (iEnum K ta) := by
  subst hK
  intro pins s σ H R I h
  refine wpAny_Call_Name_kw (ld_blt I hg hm boot_enumerate (PyProof.Rows.callWith_type1 (thn (ha pos pins s σ H _ I h) fun us s1 ⟨vs, H1, I1, r1, q1⟩ => ?_) he hp))
  obtain ⟨l1, xs, e, q1, q⟩ := q1
  subst e
  obtain ⟨u, rfl, r⟩ := vals1 r1
  cases r
  obtain ⟨its, rv, p1, _⟩ := I1.list q1
  refine call_enumerate_list p1.isList fun h' a1 a2 a3 a4 => ?_
  refine wpAny_pyIter_enum (s := { s1 with heap := h' }) a1 ⟨s1.heap.objs.size + 1, [s1.heap.objs.size + 1, s1.heap.objs.size], _, _, H1, rfl, I1.kept (t' := s1.toks) a4, turn_enum (l := l1) (Nat.ne_of_lt (Nat.lt_succ_self _)), ⟨⟨_, a1⟩, a2⟩, fun c hc => ?_, q⟩
  have big : s1.heap.objs.size ≤ c := by
    simp only [List.mem_cons, List.not_mem_nil, or_false] at hc
    rcases hc with e | e <;> (rw [e]; first | exact Nat.le_add_right _ _ | exact Nat.le_refl _)
  exact I1.fpOk big (I1.hok.fresh big)
theorem for_enum {K : PySem.W.Frag} {a : Addr} {xs : List V} {g : TG} {tb : TS} {D : Ends} {σ : St} {H : Hp} (Pv : Nat → St → Hp → Prop) (h0 : Pv 0 σ H) (hl : ∀ i σ H, i ≤ xs.length → Pv i σ H → SqL K H a xs)
    (hs : ∀ i x p σ H, xs[i]? = some x → Pv i σ H → H p = none → g (.ref p) σ (upd H p (.tup [.int i, x])) fun σ2 H2 => tb { D with nx := Pv (i + 1), ct := Pv (i + 1), bk := D.nx } σ2 H2) (hd : ∀ σ H, Pv xs.length σ H → D.nx σ H) :
    ∃ W : Nat → Nat → St → Hp → Prop, (∃ m, W 0 m σ H) ∧ ∀ i m σ H, W i m σ H →
      ((Ite K a).stop i H ∧ D.nx σ H) ∨ ((Ite K a).go i H ∧ ∃ N : St → Hp → Prop, (∀ σ' H', N σ' H' → ∃ m', m' < m ∧ W (i + 1) m' σ' H') ∧ ∀ v H', (Ite K a).yld i H v H' → g v σ H' fun σ2 H2 => tb { D with nx := N, ct := N, bk := D.nx } σ2 H2) := by
  refine ⟨fun i m σ H => m = xs.length - i ∧ i ≤ xs.length ∧ Pv i σ H, ⟨xs.length, by simp, Nat.zero_le _, h0⟩, ?_⟩
  rintro i m σ H ⟨rfl, hi, p⟩
  have qa := hl i σ H hi p
  by_cases hlt : i < xs.length
  · refine .inr ⟨⟨xs, xs[i], qa, by simp [hlt]⟩, Pv (i + 1), fun σ' H' p' => ⟨xs.length - (i + 1), by omega, rfl, hlt, p'⟩, fun v H' y => ?_⟩
    obtain ⟨r, x, e, hr, h1, e2⟩ := y
    subst e e2
    exact hs i x r σ _ (h1 xs qa) p hr
  · have e : i = xs.length := by omega
    subst e
    exact .inl ⟨⟨xs, qa, Nat.le_refl _⟩, hd σ H p⟩
end L2
set_option maxRecDepth 100000
set_option maxHeartbeats 3200000
namespace LS
open PySem PySem.W PyProof.Rows
section
variable {prog : Program} {w : World} {A : Around} {E : Value → Shared → Prop} {s : Shared}
end
end LS
namespace L2
open PySem PySem.Spec PyProof.Rows LS
section
variable {X : Cx}
end
section
variable {prog : Program} {w : World} {A : Around} {E : Value → Shared → Prop} {s : Shared} {K : PySem.W.Frag} {ea C CL f dx : Addr} {oe : Obj}
end
section
variable {X : Cx} {o e value : Expr} {es : List Expr} {f x : Str} {pos pos' apos np : Pos} {ta tv : TE} {t : TA}
end
section
variable {X : Cx} {CX : CXT} {k : Nat}
end
end L2
set_option maxRecDepth 100000
set_option maxHeartbeats 1600000
namespace LS
open PySem PySem.Spec PySem.Builtin PySem.Builtin.Str PyProof.Rows
section
variable {prog : Program} {w : World} {A : Around} {E : Value → Shared → Prop} {s : Shared} {x y : Str} {t u : Tok} {Q : Value → Shared → Prop}
theorem split_raw (hy : (y.length == 0) = false) (h : ∀ l k, l.map (·.1) = Txt.split x y → Q (.ref s.heap.objs.size) { s with heap := s.heap.push { cls := .type "list", data := .seq (strValues l).toArray }, toks := k }) (hsz : x.length + 2 ≤ sizeLine) :
    wpAny (model prog w) A (call (.builtin "str.split") [.str x t, .str y u]) Q E s := by
  have hn : (partsBetween x (occurrences x y 0 x.length (x.length + 1)) y.length).length ≤ sizeLine := by
    have e1 := StrLaws.occ_length_le x y 0 x.length (x.length + 1)
    rw [length_partsBetween]; omega
  cases h1 : (decide (x.length < y.length) || decide (Builtin.Str.strKind x < Builtin.Str.strKind y))
  · cases hf : (occurrences x y 0 x.length (x.length + 1)).isEmpty
    · refine call_meets F.slot_str_split (typeIs_str _ _ _) F.entry_str_split (F.args_str_split_2 _ _) (meets_str_split_sep x y t u h1 hy hf (by omega) hn) ?_
      show wants Q E _ { s with toks := _, heap := s.heap.push { cls := .type "list", data := .seq (strsFrom s.toks (partsBetween x (occurrences x y 0 x.length (x.length + 1)) y.length)).toArray } }
      rw [strsFrom_eq]
      exact h (numbered s.toks _) _ ((numbered_texts _ _).trans ((if_neg (ne_true_of_eq_false h1)).trans (if_neg (ne_true_of_eq_false hf))).symm)
    · exact call_meets F.slot_str_split (typeIs_str _ _ _) F.entry_str_split (F.args_str_split_2 _ _) (meets_str_split_not_found x y t u h1 hy hf)
        (h [(x, t)] s.toks ((if_neg (ne_true_of_eq_false h1)).trans (if_pos hf)).symm)
  · exact call_meets F.slot_str_split (typeIs_str _ _ _) F.entry_str_split (F.args_str_split_2 _ _) (meets_str_split_cannot_occur x y t u h1)
      (h [(x, t)] s.toks (if_pos h1).symm)
end
end LS
namespace L2
open PySem PySem.Spec PyProof.Rows LS
section
variable {X : Cx}
theorem vals_values : ∀ l : List (Str × Tok), Vals ((l.map (·.1)).map V.str) (strValues l)
  | [] => .nil
  | p :: r => .cons ⟨p.2, rfl⟩ (vals_values r)
theorem mt_split : MtR X "str.split" (fun x xs H Q => ∃ z y, x = .str z ∧ xs = [.str y] ∧ (y.length == 0) = false ∧ z.length ≤ 900 ∧ ∀ p, H p = none → Q (.ref p) (upd H p (.lst ((Txt.split z y).map V.str)))) := by
  intro pins s σ H x xs v us Q I rx r h
  obtain ⟨z, y, rfl, rfl, hy, hz, q⟩ := h
  obtain ⟨t, rfl⟩ := rx
  obtain ⟨u, rfl, t', rfl⟩ := vals1 r
  refine split_raw hy (fun l k e => ?_) (by rw [sizeLine_eq]; omega)
  have hl : ((Txt.split z y).map V.str).length ≤ 1000 := by rw [List.length_map]; have := split_le z y; omega
  refine ⟨.ref s.heap.objs.size, _, I.laid (o := .lst ((Txt.split z y).map V.str)) (t' := k) (fun b o e => Heap.get?_push_of_some _ e) (Nat.le_refl _) ⟨le_line hl, strValues l, 0, by rw [← e]; exact vals_values l, Heap.get?_push_size _ rfl⟩, rfl, q _ (I.hok.fresh (Nat.le_refl _))⟩
theorem strs_of_vals : ∀ {ks : List Str} {its : List Value}, Vals (ks.map V.str) its → StrsAre its ks
  | [], its, rv => by rw [List.map_nil] at rv; cases rv; exact .nil
  | k :: ks, its, rv => by
    rw [List.map_cons] at rv
    cases rv with
    | cons r1 t1 =>
      obtain ⟨t, e⟩ := r1
      subst e
      exact .cons k t (strs_of_vals t1)
theorem mt_join (K : PySem.W.Frag) (hK : X.K = K := by rfl) : MtR X "str.join" (fun x xs H Q => ∃ z a ys, x = .str z ∧ xs = [.ref a] ∧ SqL K H a (ys.map V.str) ∧ (ys.map (·.length)).sum + ys.length * z.length ≤ 16777216 ∧ Q (.str (Txt.join z ys)) H) := by
  subst hK
  intro pins s σ H x xs v us Q I rx r h
  obtain ⟨z, a, ys, rfl, rfl, hl, hz, q⟩ := h
  obtain ⟨t, rfl⟩ := rx
  obtain ⟨u, rfl, ru⟩ := vals1 r
  cases ru
  obtain ⟨its, rv, p, _⟩ := I.list hl
  exact join_list p.isList (by simpa using strs_of_vals rv) hz fun t' k => ⟨.str (Txt.join z ys), H, I.tok k, ⟨t', rfl⟩, q⟩
theorem mt_rfind : MtR X "str.rfind" (fun x xs H Q => ∃ z y, x = .str z ∧ xs = [.str y] ∧ Q (.int (Txt.rfind z y)) H) := by
  intro pins s σ H x xs v us Q I rx r h
  obtain ⟨z, y, rfl, rfl, q⟩ := h
  obtain ⟨t, rfl⟩ := rx
  obtain ⟨u, rfl, t', rfl⟩ := vals1 r
  exact SC.rfind ⟨.int _, H, I.tok _, ⟨_, rfl⟩, q⟩
theorem mt_upper : MtR X "str.upper" (fun x xs H Q => ∃ z, x = .str z ∧ xs = [] ∧ Builtin.Str.tooLong (Txt.upper z).length = false ∧ Q (.str (Txt.upper z)) H) := by
  intro pins s σ H x xs v us Q I rx r h
  obtain ⟨z, rfl, rfl, hz, q⟩ := h
  obtain ⟨t, rfl⟩ := rx
  cases r
  exact SC.upper hz ⟨.str _, H, I.tok _, ⟨_, rfl⟩, q⟩
theorem mt_islower : MtR X "str.islower" (fun x xs H Q => ∃ z, x = .str z ∧ xs = [] ∧ Q (.bl (Txt.islower z)) H) := by
  intro pins s σ H x xs v us Q I rx r h
  obtain ⟨z, rfl, rfl, q⟩ := h
  obtain ⟨t, rfl⟩ := rx
  cases r
  exact SC.islower ⟨.bl _, H, I, rfl, q⟩
end
def joinL (c : Nat) : List (List Nat) → List Nat
  | [] => []
  | [w] => w
  | w :: v :: r => w ++ c :: joinL c (v :: r)
theorem join_cs (c : Nat) : ∀ ws : List Str, cs (Str.join ⟨#[c]⟩ ws) = joinL c (ws.map cs)
  | [] => rfl
  | [w] => rfl
  | w :: v :: r => by
    have ih := join_cs c (v :: r)
    show cs (w ++ ⟨#[c]⟩ ++ Str.join ⟨#[c]⟩ (v :: r)) = cs w ++ c :: joinL c ((v :: r).map cs)
    rw [cs_app, cs_app, ih]
    show cs w ++ [c] ++ _ = _
    rw [List.append_assoc]; rfl
theorem cut_uniq {c : Nat} : ∀ {w v r q : List Nat}, c ∉ w → c ∉ v → w ++ c :: r = v ++ c :: q → w = v ∧ r = q
  | [], [], r, q, _, _, e => ⟨rfl, (List.cons.inj e).2⟩
  | [], b :: v, r, q, _, hv, e => absurd (by rw [(List.cons.inj e).1]; simp) hv
  | a :: w, [], r, q, hw, _, e => absurd (by rw [← (List.cons.inj e).1]; simp) hw
  | a :: w, b :: v, r, q, hw, hv, e => by
    obtain ⟨e1, e2⟩ := List.cons.inj (show a :: (w ++ c :: r) = b :: (v ++ c :: q) from e)
    obtain ⟨e3, e4⟩ := cut_uniq (fun h => hw (List.mem_cons_of_mem _ h)) (fun h => hv (List.mem_cons_of_mem _ h)) e2
    exact ⟨by rw [e1, e3], e4⟩
theorem joinL_inj {c : Nat} : ∀ {as bs : List (List Nat)}, as ≠ [] → bs ≠ [] → (∀ a ∈ as, c ∉ a) → (∀ b ∈ bs, c ∉ b) → joinL c as = joinL c bs → as = bs
  | [], _, h, _, _, _, _ => absurd rfl h
  | _, [], _, h, _, _, _ => absurd rfl h
  | [a], [b], _, _, _, _, e => by rw [show a = b from e]
  | [a], b :: b2 :: r, _, _, ha, _, e => absurd (by rw [show a = b ++ c :: joinL c (b2 :: r) from e]; simp) (ha a (by simp))
  | a :: a2 :: r, [b], _, _, _, hb, e => absurd (by rw [show b = a ++ c :: joinL c (a2 :: r) from e.symm]; simp) (hb b (by simp))
  | a :: a2 :: r, b :: b2 :: q, _, _, ha, hb, e => by
    obtain ⟨e1, e2⟩ := cut_uniq (ha a (by simp)) (hb b (by simp)) (show a ++ c :: joinL c (a2 :: r) = b ++ c :: joinL c (b2 :: q) from e)
    have := joinL_inj (as := a2 :: r) (bs := b2 :: q) (by simp) (by simp) (fun x hx => ha x (List.mem_cons_of_mem _ hx)) (fun x hx => hb x (List.mem_cons_of_mem _ hx)) e2
    rw [e1, this]
theorem maps_inj : ∀ {as bs : List Str}, as.map cs = bs.map cs → as = bs
  | [], [], _ => rfl
  | [], b :: bs, h => by simp at h
  | a :: as, [], h => by simp at h
  | a :: as, b :: bs, h => by
    rw [List.map_cons, List.map_cons] at h
    obtain ⟨h1, h2⟩ := List.cons.inj h
    rw [cs_inj h1, maps_inj h2]
theorem split_of {x : Str} {ws : List Str} {c : Nat} (hne : ws ≠ []) (hf : ∀ w ∈ ws, c ∉ cs w) (hx : cs x = joinL c (ws.map cs)) : Txt.split x ⟨#[c]⟩ = ws := by
  have h1 : Txt.split x ⟨#[c]⟩ ≠ [] := fun z => by have := split_pos x ⟨#[c]⟩; rw [z] at this; simp at this
  have h2 := StrLaws.split_free x c
  have h3 : cs x = joinL c ((Txt.split x ⟨#[c]⟩).map cs) := by
    have := join_cs c (Txt.split x ⟨#[c]⟩)
    rw [StrLaws.join_split] at this
    exact this
  refine maps_inj (joinL_inj (c := c) (by simpa using h1) (by simpa using hne) (fun a ha => ?_) (fun b hb => ?_) (h3.symm.trans hx))
  · obtain ⟨p, hp, rfl⟩ := List.mem_map.mp ha; exact h2 p hp
  · obtain ⟨p, hp, rfl⟩ := List.mem_map.mp hb; exact hf p hp
end L2
namespace L2
open PySem PySem.Spec PyProof.Rows LS
section
variable {X : Cx} {e : Expr} {pos : Pos}
theorem pb_ret {te : XK → TE} (h : PX X e te) : PB X [.Return (some e) pos] (fun E => tRet (te E)) := by
  intro pins s σ H D E I hw
  refine wpAny_execs_cons (wpAny_Return_some (thn (h pins s σ H _ E I hw) fun v s1 ⟨y, H1, I1, r1, q1⟩ => ?_))
  exact ⟨y, σ, H1, I1, r1, q1⟩
end
end L2
set_option maxRecDepth 100000
set_option maxHeartbeats 1600000
namespace LS
open PySem PySem.Spec PySem.Builtin PySem.Builtin.Str PyProof.Rows L2
theorem at_one {x : Str} {c i : Nat} : StrLaws.At x ⟨#[c]⟩ x.length i ↔ (cs x)[i]? = some c := StrLaws.subAt_one x c i
theorem at_cut {a b : List Nat} {c : Nat} : (a ++ c :: b)[a.length]? = some c := by simp
theorem occ_cut {x : Str} {c : Nat} {a b : List Nat} (hx : cs x = a ++ c :: b) (ha : c ∉ a) : occurrences x ⟨#[c]⟩ 0 x.length 1 = [a.length] := by
  rcases StrLaws.occ_head x ⟨#[c]⟩ 1 (Nat.le_refl _) with ⟨_, hn⟩ | ⟨i, r, e, hi, hk⟩
  · exact absurd (at_one.mpr (by rw [hx]; exact at_cut)) (hn a.length)
  · have h1 : ¬ a.length < i := fun z => hk _ z (at_one.mpr (by rw [hx]; exact at_cut))
    have h2 : ¬ i < a.length := fun z => by
      have hi' := at_one.mp hi
      rw [hx, List.getElem?_append_left z] at hi'
      exact ha (List.mem_of_getElem? hi')
    obtain rfl : i = a.length := by omega
    have hl := StrLaws.occ_length_le x ⟨#[c]⟩ 0 x.length 1
    rw [e, List.length_cons] at hl
    rw [e, List.length_eq_zero_iff.mp (show r.length = 0 by omega)]
theorem find_cut {x : Str} {c : Nat} {a b : List Nat} (hx : cs x = a ++ c :: b) (ha : c ∉ a) : Txt.find x ⟨#[c]⟩ = (a.length : Int) := by
  unfold Txt.find
  rw [occ_cut hx ha]
theorem rfind_cut {x : Str} {c : Nat} {a b : List Nat} (hx : cs x = a ++ c :: b) (hb : c ∉ b) : Txt.rfind x ⟨#[c]⟩ = (a.length : Int) := by
  unfold Txt.rfind
  rcases StrLaws.last_spec x ⟨#[c]⟩ with ⟨_, hn⟩ | ⟨i, e, hi, hk⟩
  · exact absurd (at_one.mpr (by rw [hx]; exact at_cut)) (hn a.length)
  · have h1 : ¬ i < a.length := fun z => hk _ z (at_one.mpr (by rw [hx]; exact at_cut))
    have h2 : ¬ a.length < i := fun z => by
      have hi' := at_one.mp hi
      rw [hx, List.getElem?_append_right (by omega)] at hi'
      obtain ⟨k, hk⟩ : ∃ k, i - a.length = k + 1 := ⟨i - a.length - 1, by omega⟩
      rw [hk, List.getElem?_cons_succ] at hi'
      exact hb (List.mem_of_getElem? hi')
    obtain rfl : i = a.length := by omega
    rw [e]
theorem slice_from {z : Str} {j : Int} (h0 : 0 ≤ j) (h1 : j ≤ z.length) : cs (Txt.slice z (some j) none) = (cs z).drop j.toNat := by
  rw [slice_from_eq (b := (z.length : Int)) h0 h1 rfl]
  show (((cs z).drop j.toNat).take ((z.length : Int) - j).toNat).toArray.toList = _
  have : (cs z).length = z.length := cs_len z
  simp only [List.toList_toArray]
  exact List.take_of_length_le (by rw [List.length_drop]; omega)
def rep1 (x y z : Str) : Str := if ((occurrences x y 0 x.length 1).isEmpty || (y.length == 0 && z.length == 0)) = true then x else glued z (partsBetween x (occurrences x y 0 x.length 1) y.length)
theorem rep1_cut {x z : Str} {c : Nat} {a b : List Nat} (hx : cs x = a ++ c :: b) (ha : c ∉ a) : cs (rep1 x ⟨#[c]⟩ z) = a ++ (cs z ++ b) := by
  have hl : x.length = a.length + (b.length + 1) := by rw [← cs_len, hx]; simp
  unfold rep1
  rw [occ_cut hx ha, if_neg (by simp [Str.length]), StrLaws.glued_eq_join, StrLaws.partsBetween_eq]
  show cs (strSub x 0 a.length ++ z ++ strSub x (a.length + 1) x.length) = _
  have e1 : cs (strSub x 0 a.length) = a := by
    show (strSub x 0 a.length).cps.toList = a
    rw [StrLaws.strSub_toList]
    show ((cs x).drop 0).take (a.length - 0) = a
    rw [hx]; simp
  have e2 : cs (strSub x (a.length + 1) x.length) = b := by
    show (strSub x (a.length + 1) x.length).cps.toList = b
    rw [StrLaws.strSub_toList]
    show ((cs x).drop (a.length + 1)).take (x.length - (a.length + 1)) = b
    rw [hx, hl, show a ++ c :: b = (a ++ [c]) ++ b by simp, List.drop_left' (by simp)]
    exact List.take_of_length_le (by omega)
  rw [cs_app, cs_app, e1, e2, List.append_assoc]
theorem gives_replace1 (x y z : Str) (t u v k : Tok)
    (hf : ((occurrences x y 0 x.length 1).isEmpty || (y.length == 0 && z.length == 0)) = false → (u == 0 || v == 0) = false ∧ (u == v) = false ∧ (y == z) = false ∧ tooLong (x.length + (occurrences x y 0 x.length 1).length * z.length) = false) :
    Gives («str.replace» ⟨[.str x t, .str y u, .str z v, .int 1 k], []⟩) (if ((occurrences x y 0 x.length 1).isEmpty || (y.length == 0 && z.length == 0)) = true then .val (.str x t) else .str (glued z (partsBetween x (occurrences x y 0 x.length 1) y.length))) := by
  have tree : «str.replace» ⟨[.str x t, .str y u, .str z v, .int 1 k], []⟩ = (if ((occurrences x y 0 x.length 1).isEmpty || (y.length == 0 && z.length == 0)) = true then (do rule "str.replace.nothing"; ret (.str x t)) else
          (do let same ← isSame (.str y u) (.str z v)
              if same = true then (do rule "str.replace.old-is-new"; ret (.str x t)) else
              if tooLong (x.length + (occurrences x y 0 x.length 1).length * z.length) = true then unsupported "str.replace:memory" else
              retStr (glued z (partsBetween x (occurrences x y 0 x.length 1) y.length)))) := by
    show (do let limit ← countLimit "str.replace" (some (.int 1 k)) (x.length + 1); _) = _
    rw [countLimit_int "str.replace" 1 k (x.length + 1) (by decide)]
    rfl
  rw [tree]
  cases hc : ((occurrences x y 0 x.length 1).isEmpty || (y.length == 0 && z.length == 0))
  · obtain ⟨h0, huv, hyz, hl⟩ := hf hc
    rw [isSame_str_other y z u v h0 huv hyz, hl]
    exact .of_eq rfl
  · exact .rule (.of_eq rfl)
theorem call_replace1 {prog : Program} {w : World} {A : Around} {E : Value → Shared → Prop} {s : Shared} {x y z : Str} {t u v k : Tok} {Q : Value → Shared → Prop} (hu : u ≠ 0) (hv : v ≠ 0) (huv : u ≠ v) (hyz : (y == z) = false) (hb : x.length + z.length ≤ 1000000)
    (hz : (rep1 x y z).length ≤ sizeLine) (hq : ∀ t' k', Q (.str (rep1 x y z) t') { s with toks := k' }) : wpAny (model prog w) A (call (.builtin "str.replace") [.str x t, .str y u, .str z v, .int 1 k]) Q E s := by
  have hl : tooLong (x.length + (occurrences x y 0 x.length 1).length * z.length) = false := by
    have h1 := StrLaws.occ_length_le x y 0 x.length 1
    have h2 : (occurrences x y 0 x.length 1).length * z.length ≤ 1 * z.length := Nat.mul_le_mul_right _ h1
    unfold tooLong
    rw [sizeLine_eq]
    exact decide_eq_false (by omega)
  refine call_gives F.slot_str_replace (typeIs_str _ _ _) F.entry_str_replace (F.args_str_replace_4 _ _ _ _) (gives_replace1 x y z t u v k fun _ => ⟨by simp [hu, hv], by simp [huv], hyz, hl⟩) ?_
  unfold rep1 at hq hz
  cases hc : ((occurrences x y 0 x.length 1).isEmpty || (y.length == 0 && z.length == 0))
  · rw [hc] at hq hz
    simp only [Bool.false_eq_true, if_false] at hq hz ⊢
    exact ⟨hz, hq _ _⟩
  · rw [hc] at hq
    simp only [if_true] at hq ⊢
    exact hq t s.toks
end LS
namespace L2
open PySem PySem.Spec PyProof.Rows LS
section
variable {X : Cx}
theorem ev_name {pins : List (Addr × Obj)} {s : Shared} {σ : St} {H : Hp} {i : Nat} {x : Str} {pos : Pos} {v : V} {Q : Value → Shared → Prop} (I : Inv X pins σ H s) (hN : X.N[i]? = some x) (hv : Vis X.env.scope x) (e : σ[i]? = some (some v)) (h : ∀ u, RelV v u → Q u s)
    (hd : (x == ("__debug__" : Str)) = false) (hcd : (x == ("__classdict__" : Str)) = false) : wpAny (model X.prog X.w) X.A (eval (.Name x pos) X.env) Q X.xe s := by
  obtain ⟨m, hn, hl⟩ := I.loc
  obtain ⟨u, r, l⟩ := hl i x v hN e hv
  have fin := h u r
  rcases l with ⟨hk, hm⟩ | ⟨hk, c, hc, hcell⟩
  · exact wpAny_Name (wpAny_loadName_local I.ok.kind hk hn hm fin) hd
  · rcases hk with hk | hk
    · exact wpAny_Name (wpAny_loadName_cell I.ok.kind hk hc hcell fin) hd
    · exact wpAny_Name (wpAny_loadName_free I.ok.kind hk hc hcell fin hcd) hd
def tRep (i : Nat) (c o w : Str) (t : TA) : TA := fun σ H Q => ∃ z : Str, σ[i]? = some (some (.str z)) ∧ 1 ≤ c.length ∧ 1 ≤ z.length ∧ c.length + z.length ≤ 1000 ∧ (o == w) = false ∧ z.length + w.length ≤ 1000 ∧ (rep1 z o w).length ≤ 1000 ∧
  t σ H fun xs H2 => Q (.str (c ++ z) :: .str (rep1 z o w) :: xs) H2
theorem pa_rep (i : Nat) {n c o w : Str} {j1 j2 j3 j4 : Nat} {p1 p2 p3 p4 p5 p6 p7 p8 p9 : Pos} {es : List Expr} {t : TA} (hr : PA X es t) (hN : X.N[i]? = some n := by rfl) (hv : Vis X.env.scope n := by first | exact Or.inl rfl | exact Or.inr (Or.inl rfl) | exact Or.inr (Or.inr rfl))
    (hd : (n == ("__debug__" : Str)) = false := by decide) (hcd : (n == ("__classdict__" : Str)) = false := by decide)
    (hs1 : starEach (.BinOp (.Constant (.str c) j1 p1) .Add (.Name n p2) p3 :: .Call (.Attribute (.Name n p4) "replace" p5) [.Constant (.str o) j2 p6, .Constant (.str w) j3 p7, .Constant (.int 1) j4 p8] [] p9 :: es) X.env =
      (false, eval (.BinOp (.Constant (.str c) j1 p1) .Add (.Name n p2) p3) X.env) :: starEach (.Call (.Attribute (.Name n p4) "replace" p5) [.Constant (.str o) j2 p6, .Constant (.str w) j3 p7, .Constant (.int 1) j4 p8] [] p9 :: es) X.env := by rfl)
    (hs2 : starEach (.Call (.Attribute (.Name n p4) "replace" p5) [.Constant (.str o) j2 p6, .Constant (.str w) j3 p7, .Constant (.int 1) j4 p8] [] p9 :: es) X.env = (false, eval (.Call (.Attribute (.Name n p4) "replace" p5) [.Constant (.str o) j2 p6, .Constant (.str w) j3 p7, .Constant (.int 1) j4 p8] [] p9) X.env) :: starEach es X.env := by rfl)
    (hbase : attributeBase (.Name n p4) "replace" X.env (eval (.Name n p4) X.env) = eval (.Name n p4) X.env := by rfl)
    (hfew : ((backTo p9 (starEach [.Constant (.str o) j2 p6, .Constant (.str w) j3 p7, .Constant (.int 1) j4 p8] X.env)).all (fun x => !x.1) && (backToKw p9 (keywordEach [] X.env)).all (fun x => x.1.isSome)
      && decide (([.Constant (.str o) j2 p6, .Constant (.str w) j3 p7, .Constant (.int 1) j4 p8] : List Expr).length + ([] : List Keyword).length + (if ([] : List Keyword).isEmpty then 0 else 1) < 30)) = true := by rfl)
    (hline : (p5.endLine == p9.line) = true := by rfl) :
    PA X (.BinOp (.Constant (.str c) j1 p1) .Add (.Name n p2) p3 :: .Call (.Attribute (.Name n p4) "replace" p5) [.Constant (.str o) j2 p6, .Constant (.str w) j3 p7, .Constant (.int 1) j4 p8] [] p9 :: es) (tRep i c o w t) := by
  intro pos pins s σ H Q I h
  obtain ⟨z, e, h1, h2, h3, h4, h5, h6, h⟩ := h
  rw [hs1]
  show wpAny _ _ (spliced ((false, eval (.BinOp (.Constant (.str c) j1 p1) .Add (.Name n p2) p3) X.env) :: backTo pos (starEach (.Call (.Attribute (.Name n p4) "replace" p5) [.Constant (.str o) j2 p6, .Constant (.str w) j3 p7, .Constant (.int 1) j4 p8] [] p9 :: es) X.env))) _ _ s
  refine Calls.spliced_cons (wpAny_BinOp (Calls.Constant_str ?_))
  refine ev_name (I.tok _) hN hv e (fun u ru => ?_) hd hcd
  obtain ⟨tz, rfl⟩ := ru
  refine P.add_str ?_
  rw [if_neg (by simp; omega), if_neg (by simp; omega)]
  refine ⟨by rw [app_len]; exact le_line h3, ?_⟩
  rw [hs2]
  show wpAny _ _ (spliced ((false, eval (.Call (.Attribute (.Name n p4) "replace" p5) [.Constant (.str o) j2 p6, .Constant (.str w) j3 p7, .Constant (.int 1) j4 p8] [] p9) X.env) :: backTo pos (starEach es X.env))) _ _ _
  refine Calls.spliced_cons (wpAny_Call_method_late hbase hfew hline rfl (ev_name (I.tok _) hN hv e (fun u ru => ?_) hd hcd))
  obtain ⟨tz', rfl⟩ := ru
  refine ⟨"str", "str.replace", PySem.F.plainAttrs_str, PySem.F.slot_str_replace, PySem.F.type_str_replace, typeIs_str _ _ _, (fun _ e => nomatch e), ?_⟩
  refine Calls.callWith_builtin rfl (Calls.evalArgs_plain ?_)
  refine Calls.spliced_cons (Calls.Constant_str (k := j2) (pos := p6) (Calls.spliced_cons (Calls.Constant_str (k := j3) (pos := p7) (Calls.spliced_cons (wpAny_Constant_int (k := j4) (pos := p8) (Calls.spliced_nil ?_))))))
  refine call_replace1 (Nat.succ_ne_zero _) (Nat.succ_ne_zero _) (Nat.ne_of_lt (Nat.lt_succ_self _)) h4 (by omega) (le_line h6) fun t' k' => ?_
  exact thn (hr pos pins _ σ H _ (I.tok _) h) fun us s3 ⟨xs, H3, I3, r3, q3⟩ => ⟨.str (c ++ z) :: .str (rep1 z o w) :: xs, H3, I3, .cons ⟨_, rfl⟩ (.cons ⟨_, rfl⟩ r3), q3⟩
end
end L2
set_option maxRecDepth 100000
set_option maxHeartbeats 4000000
namespace My
open PySem L2
def top (i : Nat) : Stmt := PySem.Challenge.pw_lampcues_k91_rows_read.main.body.getD i (.Pass ⟨0, 0, 0, 0⟩)
abbrev s_is_whole : Stmt := (top 11)
abbrev s_is_time : Stmt := (top 18)
abbrev s_time_text : Stmt := (top 19)
abbrev s_loosely_read : Stmt := (top 21)
abbrev s_NoText_init : Stmt := (inClass (top 2) 0)
abbrev s_time_of : Stmt := (top 20)
abbrev s_is_lamp : Stmt := (top 28)
abbrev s_is_side : Stmt := (top 29)
abbrev s_whole_of : Stmt := (top 32)
abbrev s_ticks_of : Stmt := (top 39)
abbrev s_thing_of : Stmt := (top 38)
abbrev s_things_by : Stmt := (top 37)
abbrev s_row_of : Stmt := (top 36)
abbrev s_law_cell_at : Stmt := (top 41)
abbrev s_law_number : Stmt := (top 42)
abbrev s_law_whole : Stmt := (top 43)
abbrev s_law_name : Stmt := (top 44)
abbrev s_law_ticks : Stmt := (top 45)
abbrev s_law_time_text : Stmt := (top 46)
abbrev s_law_refused : Stmt := (top 53)
abbrev s_law_thing : Stmt := (top 47)
abbrev s_law_form : Stmt := (top 48)
abbrev s_law_row : Stmt := (top 49)
abbrev s_law_spoilt_word : Stmt := (top 50)
abbrev s_law_spoilt : Stmt := (top 51)
abbrev s_law_same : Stmt := (top 52)
abbrev s_law : Stmt := (top 54)
structure Adr where
  f_is_whole : Addr
  d_is_whole : FuncData
  f_is_time : Addr
  d_is_time : FuncData
  f_time_text : Addr
  d_time_text : FuncData
  f_loosely_read : Addr
  d_loosely_read : FuncData
  f_NoText_init : Addr
  d_NoText_init : FuncData
  T_NoText_init : Addr
  D_NoText_init : List Value
  f_time_of : Addr
  d_time_of : FuncData
  f_is_lamp : Addr
  d_is_lamp : FuncData
  f_is_side : Addr
  d_is_side : FuncData
  f_whole_of : Addr
  d_whole_of : FuncData
  f_ticks_of : Addr
  d_ticks_of : FuncData
  f_thing_of : Addr
  d_thing_of : FuncData
  f_things_by : Addr
  d_things_by : FuncData
  f_row_of : Addr
  d_row_of : FuncData
  f_law_cell_at : Addr
  d_law_cell_at : FuncData
  f_law_number : Addr
  d_law_number : FuncData
  f_law_whole : Addr
  d_law_whole : FuncData
  f_law_name : Addr
  d_law_name : FuncData
  f_law_ticks : Addr
  d_law_ticks : FuncData
  f_law_time_text : Addr
  d_law_time_text : FuncData
  f_law_refused : Addr
  d_law_refused : FuncData
  f_law_thing : Addr
  d_law_thing : FuncData
  f_law_form : Addr
  d_law_form : FuncData
  f_law_row : Addr
  d_law_row : FuncData
  f_law_spoilt_word : Addr
  d_law_spoilt_word : FuncData
  f_law_spoilt : Addr
  d_law_spoilt : FuncData
  f_law_same : Addr
  d_law_same : FuncData
  f_law : Addr
  d_law : FuncData
  C_LampError : Addr
  C_NoText : Addr
  C_NoTime : Addr
  C_NoSlot : Addr
  C_NoWorth : Addr
  C_NoCue : Addr
  C_Late : Addr
  C_NoName : Addr
  C_NoRow : Addr
  S_SIDES : Addr
  S_DEEDS : Addr
  unit : Unit
structure Txt (K : PySem.W.Frag) (mg : Str → Option Value) (A : Adr) : Prop where
  F_is_whole : Fun K "is_whole" "is_whole" s_is_whole A.f_is_whole A.d_is_whole
  bb_is_whole : Binds K A.d_is_whole ["thing"] []
  m_is_whole : mg "is_whole" = some (.ref A.f_is_whole)
  F_is_time : Fun K "is_time" "is_time" s_is_time A.f_is_time A.d_is_time
  bb_is_time : Binds K A.d_is_time ["thing"] []
  m_is_time : mg "is_time" = some (.ref A.f_is_time)
  F_time_text : Fun K "time_text" "time_text" s_time_text A.f_time_text A.d_time_text
  bb_time_text : Binds K A.d_time_text ["ticks"] []
  m_time_text : mg "time_text" = some (.ref A.f_time_text)
  F_loosely_read : Fun K "loosely_read" "loosely_read" s_loosely_read A.f_loosely_read A.d_loosely_read
  bb_loosely_read : Binds K A.d_loosely_read ["text"] []
  m_loosely_read : mg "loosely_read" = some (.ref A.f_loosely_read)
  F_NoText_init : FunD K "__init__" "NoText.__init__" s_NoText_init (.ref A.T_NoText_init) A.f_NoText_init A.d_NoText_init
  bb_NoText_init : Binds K A.d_NoText_init ["self", "words", "row"] []
  bd_NoText_init : Binds K A.d_NoText_init ["self", "words", "row"] A.D_NoText_init
  dv_NoText_init : Vals [V.int 0] A.D_NoText_init
  kb_NoText_init : KBinds K A.d_NoText_init ["self", "words", "row"] ["row"] (gAB 2 1) (gAB 2 1)
  XI_NoText : XInit K A.C_NoText A.C_LampError A.f_NoText_init
  up_LampError : UpInit K A.C_LampError
  hd_NoText : PySem.W.hasDictIn K A.C_NoText = true
  nr_NoText_row : PySem.W.findIn K (.ref A.C_NoText) "row" = some none
  F_time_of : Fun K "time_of" "time_of" s_time_of A.f_time_of A.d_time_of
  bb_time_of : Binds K A.d_time_of ["text"] []
  m_time_of : mg "time_of" = some (.ref A.f_time_of)
  F_is_lamp : Fun K "is_lamp" "is_lamp" s_is_lamp A.f_is_lamp A.d_is_lamp
  bb_is_lamp : Binds K A.d_is_lamp ["thing"] []
  m_is_lamp : mg "is_lamp" = some (.ref A.f_is_lamp)
  F_is_side : Fun K "is_side" "is_side" s_is_side A.f_is_side A.d_is_side
  bb_is_side : Binds K A.d_is_side ["thing"] []
  m_is_side : mg "is_side" = some (.ref A.f_is_side)
  F_whole_of : Fun K "whole_of" "whole_of" s_whole_of A.f_whole_of A.d_whole_of
  bb_whole_of : Binds K A.d_whole_of ["word", "most"] []
  m_whole_of : mg "whole_of" = some (.ref A.f_whole_of)
  F_ticks_of : Fun K "ticks_of" "ticks_of" s_ticks_of A.f_ticks_of A.d_ticks_of
  bb_ticks_of : Binds K A.d_ticks_of ["word"] []
  m_ticks_of : mg "ticks_of" = some (.ref A.f_ticks_of)
  F_thing_of : Fun K "thing_of" "thing_of" s_thing_of A.f_thing_of A.d_thing_of
  bb_thing_of : Binds K A.d_thing_of ["kind", "word"] []
  m_thing_of : mg "thing_of" = some (.ref A.f_thing_of)
  F_things_by : Fun K "things_by" "things_by" s_things_by A.f_things_by A.d_things_by
  bb_things_by : Binds K A.d_things_by ["form", "words"] []
  m_things_by : mg "things_by" = some (.ref A.f_things_by)
  F_row_of : Fun K "row_of" "row_of" s_row_of A.f_row_of A.d_row_of
  bb_row_of : Binds K A.d_row_of ["row"] []
  m_row_of : mg "row_of" = some (.ref A.f_row_of)
  F_law_cell_at : Fun K "_law_cell_at" "_law_cell_at" s_law_cell_at A.f_law_cell_at A.d_law_cell_at
  bb_law_cell_at : Binds K A.d_law_cell_at ["_law_script", "_law_k"] []
  m_law_cell_at : mg "_law_cell_at" = some (.ref A.f_law_cell_at)
  F_law_number : Fun K "_law_number" "_law_number" s_law_number A.f_law_number A.d_law_number
  bb_law_number : Binds K A.d_law_number ["_law_cell", "_law_k"] []
  m_law_number : mg "_law_number" = some (.ref A.f_law_number)
  F_law_whole : Fun K "_law_whole" "_law_whole" s_law_whole A.f_law_whole A.d_law_whole
  bb_law_whole : Binds K A.d_law_whole ["_law_found"] []
  m_law_whole : mg "_law_whole" = some (.ref A.f_law_whole)
  F_law_name : Fun K "_law_name" "_law_name" s_law_name A.f_law_name A.d_law_name
  bb_law_name : Binds K A.d_law_name ["_law_number_here"] []
  m_law_name : mg "_law_name" = some (.ref A.f_law_name)
  F_law_ticks : Fun K "_law_ticks" "_law_ticks" s_law_ticks A.f_law_ticks A.d_law_ticks
  bb_law_ticks : Binds K A.d_law_ticks ["_law_number_here"] []
  m_law_ticks : mg "_law_ticks" = some (.ref A.f_law_ticks)
  F_law_time_text : Fun K "_law_time_text" "_law_time_text" s_law_time_text A.f_law_time_text A.d_law_time_text
  bb_law_time_text : Binds K A.d_law_time_text ["_law_ticks_here"] []
  m_law_time_text : mg "_law_time_text" = some (.ref A.f_law_time_text)
  F_law_refused : Fun K "_law_refused" "_law_refused" s_law_refused A.f_law_refused A.d_law_refused
  bb_law_refused : Binds K A.d_law_refused ["_law_thing_here"] []
  m_law_refused : mg "_law_refused" = some (.ref A.f_law_refused)
  F_law_thing : Fun K "_law_thing" "_law_thing" s_law_thing A.f_law_thing A.d_law_thing
  bb_law_thing : Binds K A.d_law_thing ["_law_kind", "_law_number_here"] []
  m_law_thing : mg "_law_thing" = some (.ref A.f_law_thing)
  F_law_form : Fun K "_law_form" "_law_form" s_law_form A.f_law_form A.d_law_form
  bb_law_form : Binds K A.d_law_form ["_law_word", "_law_number_here"] []
  m_law_form : mg "_law_form" = some (.ref A.f_law_form)
  F_law_row : Fun K "_law_row" "_law_row" s_law_row A.f_law_row A.d_law_row
  bb_law_row : Binds K A.d_law_row ["_law_cell", "_law_number_here"] []
  m_law_row : mg "_law_row" = some (.ref A.f_law_row)
  F_law_spoilt_word : Fun K "_law_spoilt_word" "_law_spoilt_word" s_law_spoilt_word A.f_law_spoilt_word A.d_law_spoilt_word
  bb_law_spoilt_word : Binds K A.d_law_spoilt_word ["_law_row_here", "_law_number_here"] []
  m_law_spoilt_word : mg "_law_spoilt_word" = some (.ref A.f_law_spoilt_word)
  F_law_spoilt : Fun K "_law_spoilt" "_law_spoilt" s_law_spoilt A.f_law_spoilt A.d_law_spoilt
  bb_law_spoilt : Binds K A.d_law_spoilt ["_law_row_here", "_law_way"] []
  m_law_spoilt : mg "_law_spoilt" = some (.ref A.f_law_spoilt)
  F_law_same : Fun K "_law_same" "_law_same" s_law_same A.f_law_same A.d_law_same
  bb_law_same : Binds K A.d_law_same ["_law_found", "_law_due"] []
  m_law_same : mg "_law_same" = some (.ref A.f_law_same)
  F_law : Fun K "law" "law" s_law A.f_law A.d_law
  bb_law : Binds K A.d_law ["_law_script"] []
  m_law : mg "law" = some (.ref A.f_law)
  c_LampError : mg "LampError" = some (.ref A.C_LampError)
  c_NoText : mg "NoText" = some (.ref A.C_NoText)
  c_NoTime : mg "NoTime" = some (.ref A.C_NoTime)
  c_NoSlot : mg "NoSlot" = some (.ref A.C_NoSlot)
  c_NoWorth : mg "NoWorth" = some (.ref A.C_NoWorth)
  c_NoCue : mg "NoCue" = some (.ref A.C_NoCue)
  c_Late : mg "Late" = some (.ref A.C_Late)
  c_NoName : mg "NoName" = some (.ref A.C_NoName)
  c_NoRow : mg "NoRow" = some (.ref A.C_NoRow)
  xc_NoText : XCls K A.C_NoText
  xm_NoText : PySem.W.exmOne K (.ref A.C_NoText) (.ref A.C_LampError) = some true
  xv_NoText : PySem.W.kitOne K (.ref A.C_NoText) (.type "ValueError") = some true
  xe_NoText_NoText : PySem.W.exmOne K (.ref A.C_NoText) (.ref A.C_NoText) = some true
  xk_NoText_LampError : PySem.W.kitOne K (.ref A.C_NoText) (.ref A.C_LampError) = some true
  xk_NoText_NoText : PySem.W.kitOne K (.ref A.C_NoText) (.ref A.C_NoText) = some true
  xk_NoText_NoTime : PySem.W.kitOne K (.ref A.C_NoText) (.ref A.C_NoTime) = some false
  xk_NoText_NoSlot : PySem.W.kitOne K (.ref A.C_NoText) (.ref A.C_NoSlot) = some false
  xk_NoText_NoWorth : PySem.W.kitOne K (.ref A.C_NoText) (.ref A.C_NoWorth) = some false
  xk_NoText_NoCue : PySem.W.kitOne K (.ref A.C_NoText) (.ref A.C_NoCue) = some false
  xk_NoText_Late : PySem.W.kitOne K (.ref A.C_NoText) (.ref A.C_Late) = some false
  xk_NoText_NoName : PySem.W.kitOne K (.ref A.C_NoText) (.ref A.C_NoName) = some false
  xk_NoText_NoRow : PySem.W.kitOne K (.ref A.C_NoText) (.ref A.C_NoRow) = some false
  x_NoRow : ExcC K A.C_NoRow
  xc_NoRow : XCls K A.C_NoRow
  xm_NoRow : PySem.W.exmOne K (.ref A.C_NoRow) (.ref A.C_LampError) = some true
  xv_NoRow : PySem.W.kitOne K (.ref A.C_NoRow) (.type "ValueError") = some true
  xe_NoRow_NoText : PySem.W.exmOne K (.ref A.C_NoRow) (.ref A.C_NoText) = some false
  xk_NoRow_LampError : PySem.W.kitOne K (.ref A.C_NoRow) (.ref A.C_LampError) = some true
  xk_NoRow_NoText : PySem.W.kitOne K (.ref A.C_NoRow) (.ref A.C_NoText) = some false
  xk_NoRow_NoTime : PySem.W.kitOne K (.ref A.C_NoRow) (.ref A.C_NoTime) = some false
  xk_NoRow_NoSlot : PySem.W.kitOne K (.ref A.C_NoRow) (.ref A.C_NoSlot) = some false
  xk_NoRow_NoWorth : PySem.W.kitOne K (.ref A.C_NoRow) (.ref A.C_NoWorth) = some false
  xk_NoRow_NoCue : PySem.W.kitOne K (.ref A.C_NoRow) (.ref A.C_NoCue) = some false
  xk_NoRow_Late : PySem.W.kitOne K (.ref A.C_NoRow) (.ref A.C_Late) = some false
  xk_NoRow_NoName : PySem.W.kitOne K (.ref A.C_NoRow) (.ref A.C_NoName) = some false
  xk_NoRow_NoRow : PySem.W.kitOne K (.ref A.C_NoRow) (.ref A.C_NoRow) = some true
  b_isinstance : mg "isinstance" = none
  b_int : mg "int" = none
  b_bool : mg "bool" = none
  b_str : mg "str" = none
  b_tuple : mg "tuple" = none
  b_list : mg "list" = none
  b_len : mg "len" = none
  b_all : mg "all" = none
  b_range : mg "range" = none
  b_enumerate : mg "enumerate" = none
  b_zip : mg "zip" = none
  b_ValueError : mg "ValueError" = none
  g_MOST_TICKS : ∃ t, mg "MOST_TICKS" = some (.int 1000000000 t)
  g_TICKS_A_SECOND : ∃ t, mg "TICKS_A_SECOND" = some (.int 1000 t)
  g_PLACES : ∃ t, mg "PLACES" = some (.int 3 t)
  g_MOST_FIGURES : ∃ t, mg "MOST_FIGURES" = some (.int 10 t)
  g_FIGURES : ∃ t, mg "FIGURES" = some (.str "0123456789" t)
  g_LETTERS : ∃ t, mg "LETTERS" = some (.str "abcdefghijklmnopqrstuvwxyz" t)
  g_MOST_LETTERS : ∃ t, mg "MOST_LETTERS" = some (.int 8 t)
  g_MOST_WORTH : ∃ t, mg "MOST_WORTH" = some (.int 1000000000 t)
  g_MOST_NUMBER : ∃ t, mg "MOST_NUMBER" = some (.int 1000000000 t)
  g_MOST_LEVEL : ∃ t, mg "MOST_LEVEL" = some (.int 1000 t)
  g_MOST_TICK : ∃ t, mg "MOST_TICK" = some (.int 999999999999 t)
  g_SIDES : mg "SIDES" = some (.ref A.S_SIDES)
  s_SIDES : ∀ H, SqT K H A.S_SIDES [.str (Str.ofString "blue"), .str (Str.ofString "bright"), .str (Str.ofString "green"), .str (Str.ofString "pan"), .str (Str.ofString "red"), .str (Str.ofString "tilt")]
  g_DEEDS : mg "DEEDS" = some (.ref A.S_DEEDS)
  s_DEEDS : ∀ H, SqT K H A.S_DEEDS [.str (Str.ofString "go"), .str (Str.ofString "back"), .str (Str.ofString "goto NUMBER"), .str (Str.ofString "stop"), .str (Str.ofString "on"), .str (Str.ofString "put NUMBER TIME TIME TIME"), .str (Str.ofString "put NUMBER TIME TIME TIME follow TIME"), .str (Str.ofString "out NUMBER"), .str (Str.ofString "keep NUMBER"), .str (Str.ofString "tell NUMBER LAMP SIDE WORTH"), .str (Str.ofString "alone NUMBER LAMP SIDE WORTH"), .str (Str.ofString "untell NUMBER LAMP SIDE"), .str (Str.ofString "block NUMBER"), .str (Str.ofString "unblock NUMBER"), .str (Str.ofString "fill NAME LAMP SIDE WORTH"), .str (Str.ofString "move NAME LEVEL"), .str (Str.ofString "down LEVEL"), .str (Str.ofString "spare LAMP")]
theorem sc_is_whole : FnScope ["thing"] ["thing"] (defScope s_is_whole) := ⟨rfl, rfl, rfl, by decide +kernel, rfl, by decide +kernel, by decide +kernel⟩
theorem sc_is_time : FnScope ["thing"] ["thing"] (defScope s_is_time) := ⟨rfl, rfl, rfl, by decide +kernel, rfl, by decide +kernel, by decide +kernel⟩
theorem sc_time_text : FnScope ["ticks", "seconds", "places"] ["ticks"] (defScope s_time_text) := ⟨rfl, rfl, rfl, by decide +kernel, rfl, by decide +kernel, by decide +kernel⟩
theorem sc_loosely_read : FnScope ["text", "halves", "figures"] ["text"] (defScope s_loosely_read) := ⟨rfl, rfl, rfl, by decide +kernel, rfl, by decide +kernel, by decide +kernel⟩
theorem ndc_loosely_read_0 : (["sign"] : List Str).Nodup := by decide +kernel
theorem sc_NoText_init : FnScope ["self", "words", "row"] ["self", "words", "row"] (defScope s_NoText_init) := ⟨rfl, rfl, rfl, by decide +kernel, rfl, by decide +kernel, by decide +kernel⟩
theorem sc_time_of : FnScope ["text", "ticks"] ["text"] (defScope s_time_of) := ⟨rfl, rfl, rfl, by decide +kernel, rfl, by decide +kernel, by decide +kernel⟩
theorem sc_is_lamp : FnScope ["thing"] ["thing"] (defScope s_is_lamp) := ⟨rfl, rfl, rfl, by decide +kernel, rfl, by decide +kernel, by decide +kernel⟩
theorem ndc_is_lamp_0 : (["sign"] : List Str).Nodup := by decide +kernel
theorem sc_is_side : FnScope ["thing"] ["thing"] (defScope s_is_side) := ⟨rfl, rfl, rfl, by decide +kernel, rfl, by decide +kernel, by decide +kernel⟩
theorem sc_whole_of : FnScope ["word", "most", "number", "sign"] ["word", "most"] (defScope s_whole_of) := ⟨rfl, rfl, rfl, by decide +kernel, rfl, by decide +kernel, by decide +kernel⟩
theorem sc_ticks_of : FnScope ["word"] ["word"] (defScope s_ticks_of) := ⟨rfl, rfl, rfl, by decide +kernel, rfl, by decide +kernel, by decide +kernel⟩
theorem sc_thing_of : FnScope ["kind", "word"] ["kind", "word"] (defScope s_thing_of) := ⟨rfl, rfl, rfl, by decide +kernel, rfl, by decide +kernel, by decide +kernel⟩
theorem sc_things_by : FnScope ["form", "words", "things", "kind", "word", "thing"] ["form", "words"] (defScope s_things_by) := ⟨rfl, rfl, rfl, by decide +kernel, rfl, by decide +kernel, by decide +kernel⟩
theorem sc_row_of : FnScope ["row", "words", "tick", "deed", "things"] ["row"] (defScope s_row_of) := ⟨rfl, rfl, rfl, by decide +kernel, rfl, by decide +kernel, by decide +kernel⟩
theorem sc_law_cell_at : FnScope ["_law_script", "_law_k"] ["_law_script", "_law_k"] (defScope s_law_cell_at) := ⟨rfl, rfl, rfl, by decide +kernel, rfl, by decide +kernel, by decide +kernel⟩
theorem sc_law_number : FnScope ["_law_cell", "_law_k"] ["_law_cell", "_law_k"] (defScope s_law_number) := ⟨rfl, rfl, rfl, by decide +kernel, rfl, by decide +kernel, by decide +kernel⟩
theorem sc_law_whole : FnScope ["_law_found"] ["_law_found"] (defScope s_law_whole) := ⟨rfl, rfl, rfl, by decide +kernel, rfl, by decide +kernel, by decide +kernel⟩
theorem sc_law_name : FnScope ["_law_number_here", "_law_letters", "_law_name_here", "_law_k"] ["_law_number_here"] (defScope s_law_name) := ⟨rfl, rfl, rfl, by decide +kernel, rfl, by decide +kernel, by decide +kernel⟩
theorem sc_law_ticks : FnScope ["_law_number_here"] ["_law_number_here"] (defScope s_law_ticks) := ⟨rfl, rfl, rfl, by decide +kernel, rfl, by decide +kernel, by decide +kernel⟩
theorem sc_law_time_text : FnScope ["_law_ticks_here"] ["_law_ticks_here"] (defScope s_law_time_text) := ⟨rfl, rfl, rfl, by decide +kernel, rfl, by decide +kernel, by decide +kernel⟩
theorem sc_law_refused : FnScope ["_law_thing_here", "_law_caught", "e"] ["_law_thing_here"] (defScope s_law_refused) := ⟨rfl, rfl, rfl, by decide +kernel, rfl, by decide +kernel, by decide +kernel⟩
theorem sc_law_thing : FnScope ["_law_kind", "_law_number_here", "_law_ticks_here", "_law_some"] ["_law_kind", "_law_number_here"] (defScope s_law_thing) := ⟨rfl, rfl, rfl, by decide +kernel, rfl, by decide +kernel, by decide +kernel⟩
theorem sc_law_form : FnScope ["_law_word", "_law_number_here", "_law_kinds", "_law_found"] ["_law_word", "_law_number_here"] (defScope s_law_form) := ⟨rfl, rfl, rfl, by decide +kernel, rfl, by decide +kernel, by decide +kernel⟩
theorem sc_law_row : FnScope ["_law_cell", "_law_number_here", "_law_words", "_law_word", "_law_hand", "_law_tick", "_law_things", "_law_texts", "_law_k", "_law_kind", "_law_thing_here", "_law_shown_so"] ["_law_cell", "_law_number_here"] (defScope s_law_row) := ⟨rfl, rfl, rfl, by decide +kernel, rfl, by decide +kernel, by decide +kernel⟩
theorem sc_law_spoilt_word : FnScope ["_law_row_here", "_law_number_here", "_law_words", "_law_at"] ["_law_row_here", "_law_number_here"] (defScope s_law_spoilt_word) := ⟨rfl, rfl, rfl, by decide +kernel, rfl, by decide +kernel, by decide +kernel⟩
theorem sc_law_spoilt : FnScope ["_law_row_here", "_law_way", "_law_last", "_law_at", "_law_some"] ["_law_row_here", "_law_way"] (defScope s_law_spoilt) := ⟨rfl, rfl, rfl, by decide +kernel, rfl, by decide +kernel, by decide +kernel⟩
theorem sc_law_same : FnScope ["_law_found", "_law_due", "_law_thing_here", "_law_wanted"] ["_law_found", "_law_due"] (defScope s_law_same) := ⟨rfl, rfl, rfl, by decide +kernel, rfl, by decide +kernel, by decide +kernel⟩
theorem sc_law : FnScope ["_law_script", "_law_k", "_law_cell", "_law_number_here", "_law_due", "_law_spoilt_here", "_law_found"] ["_law_script"] (defScope s_law) := ⟨rfl, rfl, rfl, by decide +kernel, rfl, by decide +kernel, by decide +kernel⟩
inductive Kd (K : PySem.W.Frag) (H : Hp) : V → Bool → Prop
  | int (i : Int) : Kd K H (.int i) (decide (0 ≤ i) && decide (i ≤ 1000000000))
  | other (x : V) (t : String) (b1 b2 : Bool) (ty : TyOf K H x (.type t)) (h1 : PySem.W.kitOne K (.type t) (.type "bool") = some b1) (h2 : PySem.W.kitOne K (.type t) (.type "int") = some b2) (h : (b1 || !b2) = true) : Kd K H x false
theorem tyKeep {K : PySem.W.Frag} {H H' : Hp} {x : V} {t : Value} (h : TyOf K H x t) (s : Same H H') : TyOf K H' x t := by
  cases h with
  | non => exact .non
  | bl b => exact .bl b
  | int i => exact .int i
  | str z => exact .str z
  | flt z => exact .flt z
  | lst e => exact .lst (s _ _ e)
  | frz e => exact .frz (s _ _ e)
  | tup e => exact .tup (s _ _ e)
  | dK e => exact .dK (s _ _ e)
  | dT e => exact .dT (s _ _ e)
  | ins e a1 a2 a3 a4 a5 => exact .ins (s _ _ e) a1 a2 a3 a4 a5
theorem Kd.keep {K : PySem.W.Frag} {H H' : Hp} {x : V} {c : Bool} (h : Kd K H x c) (s : Same H H') : Kd K H' x c := by
  cases h with
  | int i => exact .int i
  | other _ t b1 b2 ty h1 h2 h => exact .other x t b1 b2 (tyKeep ty s) h1 h2 h
theorem Kd.intF {K : PySem.W.Frag} {H : Hp} {i : Int} (h : i < 0 ∨ 1000000000 < i) : Kd K H (.int i) false := by
  have := Kd.int (K := K) (H := H) i
  rw [show (decide (0 ≤ i) && decide (i ≤ 1000000000)) = false by rcases h with h | h <;> simp <;> omega] at this
  exact this
theorem Kd.intT {K : PySem.W.Frag} {H : Hp} {i : Int} (h : 0 ≤ i) (h' : i ≤ 1000000000) : Kd K H (.int i) true := by
  have := Kd.int (K := K) (H := H) i
  rw [show (decide (0 ≤ i) && decide (i ≤ 1000000000)) = true by simp; omega] at this
  exact this
inductive Wh (K : PySem.W.Frag) (H : Hp) : V → Bool → Prop
  | int (i : Int) : Wh K H (.int i) true
  | other (x : V) (t : String) (b1 b2 : Bool) (ty : TyOf K H x (.type t)) (h2 : PySem.W.kitOne K (.type t) (.type "int") = some b2) (h1 : PySem.W.kitOne K (.type t) (.type "bool") = some b1) (h : (b1 || !b2) = true) : Wh K H x false
def spWhK (K : PySem.W.Frag) : Sp := fun vs H Q _ => ∃ x c, vs = [x] ∧ Wh K H x c ∧ Q (.bl c) H
theorem ok_is_whole {P : Program} {w : World} {K : PySem.W.Frag} {mg : Str → Option Value} {base : Heap} {A : Adr} (T : Txt K mg A) : FnOk P w K mg base (CXE P w) 1 A.f_is_whole A.d_is_whole ["thing"] (spWhK K) := by
  refine T.F_is_whole.okN sc_is_whole (fun vs H Q E h => ?_) (fun cdv Ar outer s H vs Q E hr h => ?_)
  · obtain ⟨x, c, rfl, hk, k⟩ := h
    rfl
  · obtain ⟨x, c, rfl, hk, k⟩ := h
    refine ⟨_, (pss_one (ps_ret (pe_and (pe_callB (call_isiT K) (by rfl) T.b_isinstance boot_isinstance (pa_cons (pv 0) (pa_cons (pe_ty (by rfl) T.b_int boot_int) pa_nil))) (pe_one (pe_not (pe_callB (call_isiT K) (by rfl) T.b_isinstance boot_isinstance (pa_cons (pv 0) (pa_cons (pe_ty (by rfl) T.b_bool boot_bool) pa_nil)))))))), ?_⟩
    cases hk with
    | int i =>
      refine ⟨_, rfl, _, _, _, _, rfl, .int i, kit_sub (.inr (.inr (.inl rfl))) (.inl rfl), _, rfl, iteT ?_⟩
      exact ⟨_, rfl, _, _, _, _, rfl, .int i, kit_sub (.inr (.inr (.inl rfl))) (.inr (.inl rfl)), _, rfl, k⟩
    | other _ t b1 b2 ty h2 h1 h =>
      refine ⟨_, rfl, _, _, _, _, rfl, ty, h2, _, rfl, ?_⟩
      cases b2 with
      | false => exact iteF k
      | true =>
        have e : b1 = true := by simpa using h
        subst e
        exact iteT ⟨_, rfl, _, _, _, _, rfl, ty, h1, _, rfl, k⟩
def spIs (K : PySem.W.Frag) : Sp := fun vs H Q _ => ∃ x c, vs = [x] ∧ Kd K H x c ∧ Q (.bl c) H
theorem ok_is_time {P : Program} {w : World} {K : PySem.W.Frag} {mg : Str → Option Value} {base : Heap} {A : Adr} (T : Txt K mg A) : FnOk P w K mg base (CXE P w) 2 A.f_is_time A.d_is_time ["thing"] (spIs K) := by
  have G_is_whole := ok_is_whole (P := P) (w := w) (base := base) T
  refine T.F_is_time.okN sc_is_time (fun vs H Q E h => ?_) (fun cdv Ar outer s H vs Q E hr h => ?_)
  · obtain ⟨x, c, rfl, hk, k⟩ := h
    rfl
  · obtain ⟨x, c, rfl, hk, k⟩ := h
    refine ⟨_, (pss_one (ps_ret (pe_and (pe_call G_is_whole (hr.mono (by decide)) (by rfl) T.m_is_whole T.F_is_whole.kp T.bb_is_whole .nil passE0 (pa_cons (pv 0) pa_nil)) (pe_one (pe_chain op_le op_le pe_int (pv 0) (pe_gint (by rfl) T.g_MOST_TICKS)))))), ?_⟩
    cases hk with
    | int i =>
      refine ⟨_, rfl, _, _, rfl, .int i, _, rfl, iteT ?_⟩
      refine ⟨_, rfl, _, _, rfl, rfl, _, rfl, ?_⟩
      by_cases c1 : 0 ≤ i
      · rw [decide_eq_true c1] at k ⊢
        exact iteT ⟨_, _, rfl, rfl, k⟩
      · rw [decide_eq_false c1] at k ⊢
        exact iteF k
    | other _ t b1 b2 ty h1 h2 h => exact ⟨_, rfl, _, _, rfl, .other x t b1 b2 ty h2 h1 h, _, rfl, iteF k⟩
def secT (n : Int) : Str := Str.ofString (toString n)
def plcT (r : Int) : Str := Txt.rstripChars (Txt.zfill (Str.ofString (toString r)) 3) (Str.ofString "0")
def timeT (t : Int) : Str := if plcT (t % 1000) = Str.ofString "" then secT (t / 1000) else secT (t / 1000) ++ Str.ofString "." ++ plcT (t % 1000)
def plcChk (r : Nat) : Bool :=
  let p := plcT (r : Int)
  let q := Txt.slice (p ++ Str.ofString "00") none (some 3)
  ((cs p == []) == (r == 0)) && decide ((cs p).length ≤ 3) && (cs p).all isDig && ((cs p).getLast? != some 48) && (cs q).all isDig && (PySem.NumText.digitsVal (cs q) == r)
theorem plc_all : (List.range 1000).all plcChk = true := by decide +kernel
theorem zf_all : (List.range 1000).all (fun r => decide ((Txt.zfill (Str.ofString (toString (r : Int))) 3).length ≤ 10)) = true := by decide +kernel
theorem plc_ok {r : Int} (h0 : 0 ≤ r) (h1 : r < 1000) : plcChk r.toNat = true ∧ ((r.toNat : Nat) : Int) = r ∧ (Txt.zfill (Str.ofString (toString r)) 3).length ≤ 10 := by
  have e : ((r.toNat : Nat) : Int) = r := Int.toNat_of_nonneg h0
  have m : r.toNat ∈ List.range 1000 := List.mem_range.mpr (by omega)
  have z := List.all_eq_true.mp zf_all _ m
  rw [e] at z
  exact ⟨List.all_eq_true.mp plc_all _ m, e, of_decide_eq_true z⟩
structure PlcOk (r : Int) : Prop where
  nil : cs (plcT r) = [] ↔ r = 0
  len : (cs (plcT r)).length ≤ 3
  dig : (cs (plcT r)).all isDig = true
  last : (cs (plcT r)).getLast? ≠ some 48
  dig3 : (cs (Txt.slice (plcT r ++ Str.ofString "00") none (some 3))).all isDig = true
  val : ((PySem.NumText.digitsVal (cs (Txt.slice (plcT r ++ Str.ofString "00") none (some 3))) : Nat) : Int) = r
theorem plc {r : Int} (h0 : 0 ≤ r) (h1 : r < 1000) : PlcOk r := by
  obtain ⟨a, e, _⟩ := plc_ok h0 h1
  unfold plcChk at a
  rw [e] at a
  simp only [Bool.and_eq_true, decide_eq_true_eq] at a
  obtain ⟨⟨⟨⟨⟨a1, a2⟩, a3⟩, a4⟩, a5⟩, a6⟩ := a
  refine ⟨?_, a2, a3, by simpa using a4, a5, ?_⟩
  · have a1 := eq_of_beq a1
    constructor
    · intro z
      rw [z] at a1
      have : (r.toNat == 0) = true := by rw [← a1]; rfl
      have := eq_of_beq this
      omega
    · intro z
      have : (r.toNat == 0) = true := by rw [z]; rfl
      rw [this] at a1
      exact eq_of_beq a1
  · have := eq_of_beq a6
    omega
theorem log20 {n : Nat} (h : n ≤ 1000000) : n.log2 < 1920 := by
  by_cases h0 : n = 0
  · subst h0; decide
  · exact (Nat.log2_lt h0).mpr (Nat.lt_of_le_of_lt h (Nat.lt_of_lt_of_le (show 1000000 < 2 ^ 20 by decide) (Nat.pow_le_pow_right (by decide) (by decide))))
theorem sec_len {n : Int} (h0 : 0 ≤ n) (h1 : n ≤ 1000000) : (secT n).length ≤ 10 := by
  obtain ⟨m, rfl⟩ := Int.eq_ofNat_of_zero_le h0
  rw [← cs_len]
  unfold secT
  rw [num_cs, List.length_map]
  exact PyProof.Rows.digits10_le (by decide) (by omega)
def spText : Sp := fun vs H Q _ => ∃ t : Int, vs = [.int t] ∧ 0 ≤ t ∧ t ≤ 1000000000 ∧ Q (.str (timeT t)) H
theorem ok_time_text {P : Program} {w : World} {K : PySem.W.Frag} {mg : Str → Option Value} {base : Heap} {A : Adr} (T : Txt K mg A) : FnOk P w K mg base (CXE P w) 3 A.f_time_text A.d_time_text ["ticks"] (spText) := by
  have G_is_time := ok_is_time (P := P) (w := w) (base := base) T
  refine T.F_time_text.okN sc_time_text (fun vs H Q E h => ?_) (fun cdv Ar outer s H vs Q E hr h => ?_)
  · obtain ⟨t, rfl, h0, h1, k⟩ := h
    rfl
  · obtain ⟨t, rfl, h0, h1, k⟩ := h
    refine ⟨_, (pss_cons (ps_if (pt_not (pt_val (pe_call G_is_time (hr.mono (by decide)) (by rfl) T.m_is_time T.F_is_time.kp T.bb_is_time .nil passE0 (pa_cons (pv 0) pa_nil)))) (pss_one ps_dead) pss_nil)
      (pss_cons (ps_set (i := 1) sc_time_text.nd rfl (Or.inl rfl) (pe_callTy call_str_int (by rfl) T.b_str boot_strT (pa_cons (pe_op op_fdivL (pv 0) (pe_gint (by rfl) T.g_TICKS_A_SECOND)) pa_nil)))
      (pss_cons (ps_set (i := 2) sc_time_text.nd rfl (Or.inl rfl) (pe_bmK K PySem.F.plainAttrs_str PySem.F.slot_str_rstrip PySem.F.type_str_rstrip mt_rstripC (pe_bmK K PySem.F.plainAttrs_str PySem.F.slot_str_zfill PySem.F.type_str_zfill mt_zfill (pe_callTy call_str_int (by rfl) T.b_str boot_strT (pa_cons (pe_op op_mod (pv 0) (pe_gint (by rfl) T.g_TICKS_A_SECOND)) pa_nil)) (pa_cons (pe_gint (by rfl) T.g_PLACES) pa_nil)) (pa_cons pe_str pa_nil)))
      (pss_cons (ps_if (pt_cmpR op_eq (pv 2) pe_str (nomark _)) (pss_one (ps_ret (pv 1))) pss_nil)
      (pss_one (ps_ret (pe_op op_add_str (pe_op op_add_str (pv 1) pe_str) (pv 2)))))))), ?_⟩
    · refine seq_cut (fun σ' H' => σ' = [some (.int t), none, none] ∧ H' = H) (fun N hN => ?_) ?_
      · exact ⟨_, rfl, _, _, rfl, Kd.intT h0 h1, _, rfl, iteF (hN _ _ ⟨rfl, rfl⟩)⟩
      rintro σ' H1 ⟨rfl, rfl⟩
      refine seq_cut2 (fun σ' H' => σ' = [some (.int t), some (.str (secT (t / 1000))), some (.str (plcT (t % 1000)))] ∧ H' = H1) (fun N hN => ?_) ?_
      · refine ⟨_, rfl, _, _, rfl, rfl, ⟨by decide, by decide⟩, _, rfl, ?_, ?_⟩
        · exact log20 (by omega)
        refine ⟨_, rfl, _, _, rfl, rfl, (by show (0 : Int) < 1000; decide), _, rfl, ?_, rfl, _, _, rfl, rfl, rfl, rfl, _, _, rfl, rfl, ?_, ?_⟩
        · exact log20 (by omega)
        · exact Nat.le_trans (plc_ok (r := t % 1000) (by omega) (by omega)).2.2 (by decide)
        · exact hN _ _ ⟨rfl, rfl⟩
      rintro σ' H2 ⟨rfl, rfl⟩
      have hp := plc (r := t % 1000) (by omega) (by omega)
      have hl := sec_len (n := t / 1000) (by omega) (by omega)
      unfold timeT at k
      refine ⟨_, rfl, rfl, _, rfl, ?_⟩
      by_cases c : plcT (t % 1000) = Str.ofString ""
      · rw [if_pos c] at k
        rw [decide_eq_true (congrArg V.str c)]
        exact iteT ⟨_, rfl, k⟩
      · rw [if_neg c] at k
        rw [decide_eq_false (fun z => c (V.str.inj z))]
        refine iteF ⟨_, rfl, _, _, rfl, rfl, ?_, _, rfl, _, _, rfl, rfl, ?_, k⟩
        · show (secT (t / 1000)).length + 1 ≤ sizeLine
          exact le_line (by omega)
        · have := hp.len
          rw [cs_len] at this
          rw [← cs_len, cs_app, List.length_append, cs_len]
          exact le_line (by show (secT (t / 1000)).length + 1 + _ ≤ 1000; omega)
theorem point : Str.ofString "." = ⟨#[46]⟩ := str_one _ _ (by decide +kernel)
theorem ne_text {x y : Str} (h : cs x ≠ cs y) : ¬ (V.str x = V.str y) := fun e => h (congrArg cs (V.str.inj e))
theorem cs_empty : cs (Str.ofString "") = [] := by decide +kernel
theorem cs_zero : cs (Str.ofString "0") = [48] := by decide +kernel
def okS (l : List Nat) : Prop := l.all isDig = true ∧ l ≠ [] ∧ (l = [48] ∨ l.head? ≠ some 48)
def okR (l : List Nat) : Prop := l.all isDig = true ∧ l ≠ [] ∧ l.length ≤ 3 ∧ l.getLast? ≠ some 48
def pad3 (l : List Nat) : List Nat := l ++ List.replicate (3 - l.length) 48
open PySem.NumText in
def val3 (l : List Nat) : Int := ((digitsVal (pad3 l) : Nat) : Int)
def padChk (r : Nat) : Bool := decide ((pad3 (cs (plcT (r : Int)))).length = 3) && (pad3 (cs (plcT (r : Int)))).all isDig && (PySem.NumText.digitsVal (pad3 (cs (plcT (r : Int)))) == r)
theorem pad_all : (List.range 1000).all padChk = true := by decide +kernel
structure PadOk3 (r : Int) : Prop where
  len : (pad3 (cs (plcT r))).length = 3
  dig : (pad3 (cs (plcT r))).all isDig = true
  val : val3 (cs (plcT r)) = r
theorem pad {r : Int} (h0 : 0 ≤ r) (h1 : r < 1000) : PadOk3 r := by
  have e : ((r.toNat : Nat) : Int) = r := Int.toNat_of_nonneg h0
  have m : r.toNat ∈ List.range 1000 := List.mem_range.mpr (by omega)
  have a := List.all_eq_true.mp pad_all _ m
  unfold padChk at a
  rw [e] at a
  simp only [Bool.and_eq_true, decide_eq_true_eq] at a
  obtain ⟨⟨a1, a2⟩, a3⟩ := a
  refine ⟨a1, a2, ?_⟩
  unfold val3
  rw [eq_of_beq a3, e]
def figs10 : List Nat := [48, 49, 50, 51, 52, 53, 54, 55, 56, 57]
def rests : List (List Nat) := (figs10.map fun a => [a]) ++ (figs10.flatMap fun a => figs10.map fun b => [a, b]) ++ (figs10.flatMap fun a => figs10.flatMap fun b => figs10.map fun c => [a, b, c])
def restChk (l : List Nat) : Bool := (l.getLast? == some 48) || ((cs (plcT ((PySem.NumText.digitsVal (pad3 l) : Nat) : Int)) == l) && decide (PySem.NumText.digitsVal (pad3 l) < 1000) && (PySem.NumText.digitsVal (pad3 l) != 0))
theorem rest_all : rests.all restChk = true := by decide +kernel
theorem mem10 {c : Nat} (h : isDig c = true) : c ∈ figs10 := by
  have := isDig_iff.mp h
  have : c = 48 ∨ c = 49 ∨ c = 50 ∨ c = 51 ∨ c = 52 ∨ c = 53 ∨ c = 54 ∨ c = 55 ∨ c = 56 ∨ c = 57 := by omega
  rcases this with rfl | rfl | rfl | rfl | rfl | rfl | rfl | rfl | rfl | rfl <;> decide
theorem mem_rests {l : List Nat} (h : okR l) : l ∈ rests := by
  obtain ⟨h1, h2, h3, _⟩ := h
  unfold rests
  match l, h1, h2, h3 with
  | [a], h1, _, _ =>
    simp only [List.all_cons, List.all_nil, Bool.and_eq_true] at h1
    exact List.mem_append_left _ (List.mem_append_left _ (List.mem_map.mpr ⟨a, mem10 h1.1, rfl⟩))
  | [a, b], h1, _, _ =>
    simp only [List.all_cons, List.all_nil, Bool.and_eq_true] at h1
    exact List.mem_append_left _ (List.mem_append_right _ (List.mem_flatMap.mpr ⟨a, mem10 h1.1, List.mem_map.mpr ⟨b, mem10 h1.2.1, rfl⟩⟩))
  | [a, b, c], h1, _, _ =>
    simp only [List.all_cons, List.all_nil, Bool.and_eq_true] at h1
    exact List.mem_append_right _ (List.mem_flatMap.mpr ⟨a, mem10 h1.1, List.mem_flatMap.mpr ⟨b, mem10 h1.2.1, List.mem_map.mpr ⟨c, mem10 h1.2.2.1, rfl⟩⟩⟩)
  | _ :: _ :: _ :: _ :: _, _, _, h3 => simp at h3
theorem rest_ok {l : List Nat} (h : okR l) : cs (plcT (val3 l)) = l ∧ 0 < val3 l ∧ val3 l < 1000 := by
  have a := List.all_eq_true.mp rest_all _ (mem_rests h)
  unfold restChk at a
  rw [Bool.or_eq_true] at a
  rcases a with a | a
  · exact absurd (eq_of_beq a) h.2.2.2
  · simp only [Bool.and_eq_true, decide_eq_true_eq] at a
    obtain ⟨⟨a1, a2⟩, a3⟩ := a
    have a3 : PySem.NumText.digitsVal (pad3 l) ≠ 0 := by simpa using a3
    refine ⟨eq_of_beq a1, ?_, ?_⟩ <;> (unfold val3; omega)
theorem sec_ok {n : Int} (h0 : 0 ≤ n) : okS (cs (secT n)) ∧ ((PySem.NumText.digitsVal (cs (secT n)) : Nat) : Int) = n ∧ (46 : Nat) ∉ cs (secT n) := by
  obtain ⟨m, rfl⟩ := Int.eq_ofNat_of_zero_le h0
  have s2 := num_dig m
  refine ⟨⟨dig_all.mpr s2, num_ne m, ?_⟩, ?_, fun z => ?_⟩
  · exact num_head m
  · unfold secT; rw [num_val]
  · have := s2 46 z; omega
theorem sec_of {l : List Nat} (h : okS l) : cs (secT ((PySem.NumText.digitsVal l : Nat) : Int)) = l := by
  obtain ⟨h1, h2, h3⟩ := h
  refine num_of (dig_all.mp h1) ?_
  rcases h3 with h3 | h3
  · exact .inl h3
  · exact .inr ⟨h2, h3⟩
theorem sec_len7 {n : Int} (h0 : 0 ≤ n) (h1 : n ≤ 1000000) : (cs (secT n)).length ≤ 7 := by
  obtain ⟨m, rfl⟩ := Int.eq_ofNat_of_zero_le h0
  unfold secT
  rw [num_cs, List.length_map]
  exact PyProof.Rows.digits10_le (by decide) (by omega)
inductive Parted (t S p R : Str) : Prop
  | no (h : (46 : Nat) ∉ cs t) (hS : S = t) (hp : p = Str.ofString "") (hR : R = Str.ofString "")
  | at_ (h : (46 : Nat) ∉ cs S) (ht : cs t = cs S ++ 46 :: cs R) (hp : p = Str.ofString ".")
theorem cs_time {n : Int} (h0 : 0 ≤ n) : cs (timeT n) = if n % 1000 = 0 then cs (secT (n / 1000)) else cs (secT (n / 1000)) ++ 46 :: cs (plcT (n % 1000)) := by
  have hp := plc (r := n % 1000) (by omega) (by omega)
  unfold timeT
  by_cases c : n % 1000 = 0
  · rw [if_pos c, if_pos (cs_inj (by rw [hp.nil.mpr c, cs_empty]))]
  · rw [if_neg c, if_neg (fun z => c (hp.nil.mp (by rw [z, cs_empty]))), cs_app, cs_app, List.append_assoc]
    rfl
theorem parted_of (t : Str) : Parted t (Txt.partition t (Str.ofString ".")).1 (Txt.partition t (Str.ofString ".")).2.1 (Txt.partition t (Str.ofString ".")).2.2 := by
  by_cases h : (46 : Nat) ∈ cs t
  · obtain ⟨a, b, e⟩ := List.append_of_mem h
    -- the first one
    have key : ∃ a b, cs t = a ++ 46 :: b ∧ (46 : Nat) ∉ a := by
      clear e a b
      generalize cs t = l at h
      induction l with
      | nil => cases h
      | cons c r ih =>
        by_cases hc : c = 46
        · exact ⟨[], r, by rw [hc]; rfl, by simp⟩
        · obtain ⟨a, b, e, n⟩ := ih (by simpa [Ne.symm hc] using h)
          exact ⟨c :: a, b, by rw [e]; rfl, by simp [n, Ne.symm hc]⟩
    obtain ⟨a, b, e, n⟩ := key
    have := part_at (a := ⟨a.toArray⟩) (b := ⟨b.toArray⟩) (c := 46) (x := t) (by simpa [cs] using n) (by simpa [cs] using e)
    rw [point, this]
    exact .at_ (by simpa [cs] using n) (by simpa [cs] using e) point.symm
  · rw [point, part_none h]
    exact .no h rfl (cs_inj (by rw [cs_empty]; rfl)) (cs_inj (by rw [cs_empty]; rfl))
theorem cut_uniq {a b c d : List Nat} (h1 : (46 : Nat) ∉ a) (h2 : (46 : Nat) ∉ c) (e : a ++ 46 :: b = c ++ 46 :: d) : a = c ∧ b = d := by
  induction a generalizing c with
  | nil =>
    cases c with
    | nil => simpa using e
    | cons x r => simp at e; exact absurd (by rw [e.1]; simp) h2
  | cons x r ih =>
    cases c with
    | nil => simp at e; exact absurd (by rw [← e.1]; simp) h1
    | cons y q =>
      simp at e
      obtain ⟨e1, e2⟩ := e
      obtain ⟨z1, z2⟩ := ih (by simp at h1; exact h1.2) (by simp at h2; exact h2.2) e2
      exact ⟨by rw [e1, z1], z2⟩
theorem writes {t S p R : Str} (hp : Parted t S p R) (n : Int) (h0 : 0 ≤ n) : t = timeT n ↔ okS (cs S) ∧ ((p = Str.ofString "" ∧ n = 1000 * ((PySem.NumText.digitsVal (cs S) : Nat) : Int)) ∨ (p = Str.ofString "." ∧ okR (cs R) ∧ n = 1000 * ((PySem.NumText.digitsVal (cs S) : Nat) : Int) + val3 (cs R))) := by
  obtain ⟨s1, s2, s3⟩ := sec_ok (n := n / 1000) (by omega)
  have ct := cs_time h0
  have pl := plc (r := n % 1000) (by omega) (by omega)
  have pd := pad (r := n % 1000) (by omega) (by omega)
  have dot : ¬ Str.ofString "." = Str.ofString "" := fun z => by have := congrArg cs z; rw [cs_empty, point] at this; cases this
  constructor
  · rintro rfl
    cases hp with
    | no h hS hp hR =>
      subst hS hp
      have c : n % 1000 = 0 := by
        rcases Classical.em (n % 1000 = 0) with c | c
        · exact c
        · rw [if_neg c] at ct; exact absurd (by rw [ct]; simp) h
      rw [if_pos c] at ct
      rw [ct, s2]
      exact ⟨s1, .inl ⟨rfl, by omega⟩⟩
    | at_ h ht hp =>
      subst hp
      have c : n % 1000 ≠ 0 := fun c => by
        rw [if_pos c] at ct
        rw [ct] at ht
        exact s3 (by rw [ht]; simp)
      rw [if_neg c] at ct
      obtain ⟨e1, e2⟩ := cut_uniq h s3 (ht.symm.trans ct)
      rw [e1, e2, s2, pd.val]
      exact ⟨s1, .inr ⟨rfl, ⟨pl.dig, fun z => c (pl.nil.mp z), pl.len, pl.last⟩, by omega⟩⟩
  · rintro ⟨oS, h⟩
    have sS := sec_of oS
    refine cs_inj ?_
    rcases h with ⟨hp', hn⟩ | ⟨hp', oR, hn⟩
    · cases hp with
      | no h hS hp hR =>
        subst hS
        rw [ct, if_pos (by omega), show n / 1000 = ((PySem.NumText.digitsVal (cs S) : Nat) : Int) by omega, sS]
      | at_ h ht hp => rw [hp'] at hp; exact absurd hp.symm dot
    · cases hp with
      | no h hS hp hR => rw [hp'] at hp; exact absurd hp dot
      | at_ h ht hp =>
        obtain ⟨r1, r2, r3⟩ := rest_ok oR
        rw [ct, if_neg (by omega), show n / 1000 = ((PySem.NumText.digitsVal (cs S) : Nat) : Int) by omega, show n % 1000 = val3 (cs R) by omega, sS, r1, ht]
open PySem.NumText in
theorem val_three (l m : List Nat) (h : m.length = 3) : digitsVal (l ++ m) = 1000 * digitsVal l + digitsVal m := by
  match m, h with
  | [a, b, c], _ =>
    have e1 : digitsVal (l ++ [a, b, c]) = 10 * digitsVal (l ++ [a, b]) + (c - 48) := by rw [show l ++ [a, b, c] = (l ++ [a, b]) ++ [c] by simp, digitsVal_snoc]; omega
    have e2 : digitsVal (l ++ [a, b]) = 10 * digitsVal (l ++ [a]) + (b - 48) := by rw [show l ++ [a, b] = (l ++ [a]) ++ [b] by simp, digitsVal_snoc]; omega
    have e3 : digitsVal (l ++ [a]) = 10 * digitsVal l + (a - 48) := by rw [digitsVal_snoc]; omega
    have d1 : digitsVal ([a, b, c]) = 10 * digitsVal ([a, b]) + (c - 48) := by rw [show [a, b, c] = [a, b] ++ [c] by simp, digitsVal_snoc]; omega
    have d2 : digitsVal ([a, b]) = 10 * digitsVal ([a]) + (b - 48) := by rw [show [a, b] = [a] ++ [b] by simp, digitsVal_snoc]; omega
    have d3 : digitsVal ([a]) = 10 * digitsVal ([] : List Nat) + (a - 48) := by rw [show [a] = [] ++ [a] by simp, digitsVal_snoc]; omega
    have d4 : digitsVal ([] : List Nat) = 0 := rfl
    omega
theorem parted_len {t S p R : Str} (h : Parted t S p R) : (cs S).length + (cs R).length ≤ (cs t).length := by
  cases h with
  | no h hS hp hR => subst hS hR; rw [cs_empty]; simp
  | at_ h ht hp => rw [ht, List.length_append, List.length_cons]; omega
theorem time_figs {t S p R : Str} (hp : Parted t S p R) {n : Int} (h0 : 0 ≤ n) (h1 : n ≤ 1000000000) (e : t = timeT n) :
    (cs S ++ pad3 (cs R)).length ≤ 10 ∧ (cs S ++ pad3 (cs R)).all isDig = true ∧ ((PySem.NumText.digitsVal (cs S ++ pad3 (cs R)) : Nat) : Int) = n := by
  obtain ⟨oS, h⟩ := (writes hp n h0).mp e
  have eS := sec_of oS
  rcases h with ⟨hp', hn⟩ | ⟨hp', oR, hn⟩
  · have eR : R = Str.ofString "" := by
      cases hp with
      | no h hS hp hR => exact hR
      | at_ h ht hp => rw [hp'] at hp; exact absurd hp.symm (fun z => by have := congrArg cs z; rw [cs_empty, point] at this; cases this)
    subst eR
    have pe : pad3 (cs (Str.ofString "")) = [48, 48, 48] := by rw [cs_empty]; rfl
    have l7 := sec_len7 (n := ((PySem.NumText.digitsVal (cs S) : Nat) : Int)) (by omega) (by omega)
    rw [eS] at l7
    rw [pe]
    refine ⟨by simp; omega, by rw [List.all_append, oS.1]; rfl, ?_⟩
    rw [val_three _ _ rfl, show PySem.NumText.digitsVal [48, 48, 48] = 0 from rfl]
    omega
  · obtain ⟨r1, r2, r3⟩ := rest_ok oR
    have pd := pad (r := val3 (cs R)) (by omega) (by omega)
    have l7 := sec_len7 (n := ((PySem.NumText.digitsVal (cs S) : Nat) : Int)) (by omega) (by omega)
    rw [eS] at l7
    have pl := pd.len
    have pg := pd.dig
    rw [r1] at pl pg
    refine ⟨by rw [List.length_append, pl]; omega, by rw [List.all_append, oS.1, pg]; rfl, ?_⟩
    rw [val_three _ _ pl]
    unfold val3 at hn
    omega
def spLoose : Sp := fun vs H Q _ => ∃ t : Str, vs = [.str t] ∧ t.length ≤ 100 ∧ ∀ v H', (v = .non ∨ ∃ m : Int, v = .int m) → (∀ n : Int, 0 ≤ n → n ≤ 1000000000 → t = timeT n → v = .int n) → Same H H' → Q v H'
theorem ok_loosely_read {P : Program} {w : World} {K : PySem.W.Frag} {mg : Str → Option Value} {base : Heap} {A : Adr} (T : Txt K mg A) : FnOk P w K mg base (CXE P w) 2 A.f_loosely_read A.d_loosely_read ["text"] (spLoose) := by
  refine T.F_loosely_read.okN sc_loosely_read (fun vs H Q E h => ?_) (fun cdv Ar outer s H vs Q E hr h => ?_)
  · obtain ⟨t, rfl, hl, k⟩ := h
    rfl
  · obtain ⟨t, rfl, hl, k⟩ := h
    refine ⟨_, (pss_cons (ps_set (i := 1) sc_loosely_read.nd rfl (Or.inl rfl) (pe_bmK K PySem.F.plainAttrs_str PySem.F.slot_str_partition PySem.F.type_str_partition mt_partition (pv 0) (pa_cons pe_str pa_nil)))
      (pss_cons (ps_set (i := 2) sc_loosely_read.nd rfl (Or.inl rfl) (pe_op op_add_str (pe_ix (ix_tupK K) (pv 1) pe_int (fun _ _ => rfl)) (pe_bmK K PySem.F.plainAttrs_str PySem.F.slot_str_ljust PySem.F.type_str_ljust mt_ljustF (pe_ix (ix_tupK K) (pv 1) pe_int (fun _ _ => rfl)) (pa_cons (pe_gint (by rfl) T.g_PLACES) (pa_cons pe_str pa_nil)))))
      (pss_cons (ps_if (PW.pt (pw_or (pt_cmpR op_gt (pe_callB call_len_str (by rfl) T.b_len PySem.boot_len (pa_cons (pv 2) pa_nil)) (pe_gint (by rfl) T.g_MOST_FIGURES) (nomark _)) (pw_or1 (pt_not (pt_val (pe_callB (call_allB K rfl) (by rfl) T.b_all boot_all (pa_cons (pe_comp ["sign"] [none] rfl (pi_str (pv 2)) (fun _ _ _ => (pg_name (i := 0) ndc_loosely_read_0 rfl (Or.inl rfl))) (fun _ _ _ => (pe_cmpR op_in_str (pv 0) (pe_gstr (by rfl) T.g_FIGURES) (by with_unfolding_all rfl)))) pa_nil))))))) (pss_one (ps_ret pe_non)) pss_nil)
      (pss_one (ps_ret (pe_callTy call_intT (by rfl) T.b_int boot_int (pa_cons (pv 2) pa_nil))))))), ?_⟩
    refine seq_cut (fun σ' H' => ∃ p, σ' = [some (.str t), some (.ref p), none] ∧ Same H H' ∧ H' p = some (.tup [.str (Txt.partition t (Str.ofString ".")).1, .str (Txt.partition t (Str.ofString ".")).2.1, .str (Txt.partition t (Str.ofString ".")).2.2])) (fun N hN => ?_) ?_
    · exact ⟨_, rfl, rfl, _, _, rfl, rfl, by decide +kernel, le_line (by omega), fun q hq => hN _ _ ⟨q, rfl, Same.new hq, upd_same⟩⟩
    rintro σ' H1 ⟨p, rfl, sm, hp⟩
    have pt := parted_of t
    generalize Txt.partition t (Str.ofString ".") = tri at hp pt
    obtain ⟨S, P', R⟩ := tri
    dsimp only at hp pt
    have hln := parted_len pt
    rw [cs_len t] at hln
    refine seq_cut (fun σ' H' => ∃ F, σ' = [some (.str t), some (.ref p), some (.str F)] ∧ H' = H1 ∧ cs F = cs S ++ pad3 (cs R)) (fun N hN => ?_) ?_
    · refine ⟨_, rfl, p, _, _, _, rfl, rfl, SqT.of hp, atI_0 _ _, _, rfl, p, _, _, _, rfl, rfl, SqT.of hp, atI_2 _ _ _ _, rfl, _, _, _, rfl, rfl, rfl, rfl, _, _, rfl, rfl, ?_, hN _ _ ⟨_, rfl, rfl, ?_⟩⟩
      · rw [← cs_len, ← cs_len]
        show (cs S).length + (Txt.ljustF R 3 48).cps.toList.length ≤ _
        rw [PyProof.Rows.ljustF_list, List.length_append, List.length_replicate]
        exact le_line (by show (cs S).length + ((cs R).length + _) ≤ 1000; omega)
      · rw [cs_app]
        show cs S ++ (Txt.ljustF R 3 48).cps.toList = _
        rw [PyProof.Rows.ljustF_list]
        unfold pad3
        rw [cs_len R]
        rfl
    rintro σ' H2 ⟨F, rfl, rfl, eF⟩
    have lenF : F.length ≤ 200 := by
      rw [← cs_len, eF]
      unfold pad3
      rw [List.length_append, List.length_append, List.length_replicate]
      omega
    refine seq_cut (fun σ' H' => σ' = [some (.str t), some (.ref p), some (.str F)] ∧ Same H2 H' ∧ F.length ≤ 10 ∧ (cs F).all isDig = true) (fun N hN => ?_) ?_
    · refine ⟨_, rfl, _, rfl, le_line (by omega), _, _, rfl, rfl, _, rfl, ?_⟩
      by_cases c1 : (10 : Int) < (F.length : Int)
      · rw [decide_eq_true c1]
        refine iteT (iteT (k _ _ (.inl rfl) (fun n h0 h1 e => ?_) sm))
        have := (time_figs pt h0 h1 e).1
        rw [← eF, cs_len] at this
        omega
      · rw [decide_eq_false c1]
        refine iteF ?_
        refine ⟨_, rfl, _, rfl, fun D hD => comp_str isDig (fun σ => ∃ v, σ = [v]) hD (by omega) ⟨_, rfl⟩ ?_ ?_⟩
        · rintro c σ' H' N' hc ⟨v, rfl⟩ q
          refine ⟨_, rfl, _, _, rfl, rfl, ?_⟩
          rw [show (!(Builtin.Str.occurrences (Str.ofString "0123456789") ⟨#[c]⟩ 0 (Str.ofString "0123456789").length 1).isEmpty) = isDig c from in_figs c]
          exact q _ ⟨_, rfl⟩
        · intro H' s' hD'
          refine ⟨D, _, rfl, SqL.of hD', _, rfl, ?_⟩
          have ea : ((cs F).map isDig).all id = (cs F).all isDig := by rw [List.all_map]; rfl
          rw [ea]
          cases c2 : (cs F).all isDig with
          | true => exact iteF (hN _ _ ⟨rfl, s', by omega, c2⟩)
          | false =>
            refine iteT (k _ _ (.inl rfl) (fun n h0 h1 e => ?_) (sm.trans s'))
            have := (time_figs pt h0 h1 e).2.1
            rw [← eF, c2] at this
            cases this
    rintro σ' H3 ⟨rfl, sm3, l10, dg⟩
    refine ⟨_, rfl, _, rfl, dig_all.mp dg, ?_, by omega, k _ _ (.inr ⟨_, rfl⟩) (fun n h0 h1 e => ?_) (sm.trans sm3)⟩
    · rw [eF]
      unfold pad3
      intro z
      have := congrArg List.length z
      rw [List.length_append, List.length_append, List.length_replicate, List.length_nil] at this
      omega
    · rw [eF, (time_figs pt h0 h1 e).2.2]
def spNoText (A : Adr) : Sp := fun vs H Q _ => ∃ (ea : Addr) (wd r : V), vs = [.ref ea, wd, r] ∧ H ea = some (newAt ea (.ref A.C_NoText) none) ∧ ∀ dx, H dx = none → Q .non (upd (upd H ea (newAt ea (.ref A.C_NoText) (some dx))) dx (.xd [("row", r)]))
theorem ok_NoText_init {P : Program} {w : World} {K : PySem.W.Frag} {mg : Str → Option Value} {base : Heap} {A : Adr} (T : Txt K mg A) : FnOk P w K mg base (CXE P w) 2 A.f_NoText_init A.d_NoText_init ["self", "words", "row"] (spNoText A) := by
  refine T.F_NoText_init.okN sc_NoText_init (fun vs H Q E h => ?_) (fun cdv Ar outer s H vs Q E hr h => ?_)
  · obtain ⟨ea, wd, r, rfl, hea, k⟩ := h
    rfl
  · obtain ⟨ea, wd, r, rfl, hea, k⟩ := h
    refine ⟨_, (pss_cons (ps_expr (pe_upinit K T.up_LampError (by rfl) T.c_LampError (pa_cons (pv 0) (pa_cons (pv 1) pa_nil))))
      (pss_one (ps_xfld K (pv 0) (pv 2)))), ?_⟩
    refine ⟨_, rfl, _, rfl, ea, _, _, _, _, rfl, (by show 1 ≤ 1000; decide), hea, T.XI_NoText, ?_⟩
    refine ⟨_, rfl, _, rfl, ea, _, _, _, rfl, hea, T.XI_NoText, T.nr_NoText_row, fun dx hdx => k dx hdx⟩
def refuses (A : Adr) (H : Hp) (E : XK) : Prop := ∀ dx H', Same H H' → H' dx = some (.xd [("row", .int 0)]) → E (.ref A.C_NoText) (some dx) H'
def noTime (t : Str) : Prop := ∀ n : Int, 0 ≤ n → n ≤ 1000000000 → t ≠ timeT n
inductive Nay (K : PySem.W.Frag) (H : Hp) : V → Prop
  | txt (t : Str) (h : t.length ≤ 100) (n : noTime t) : Nay K H (.str t)
  | other (x : V) (ty : String) (h : TyOf K H x (.type ty)) (b : PySem.W.kitOne K (.type ty) (.type "str") = some false) : Nay K H x
def spOf (K : PySem.W.Frag) (A : Adr) : Sp := fun vs H Q E => ∃ x, vs = [x] ∧ ((∃ n : Int, 0 ≤ n ∧ n ≤ 1000000000 ∧ x = .str (timeT n) ∧ ∀ H', Same H H' → Q (.int n) H') ∨ (Nay K H x ∧ refuses A H E))
theorem time_len {n : Int} (h0 : 0 ≤ n) (h1 : n ≤ 1000000000) : (timeT n).length ≤ 100 := by
  have pl := plc (r := n % 1000) (by omega) (by omega)
  have l7 := sec_len7 (n := n / 1000) (by omega) (by omega)
  have := pl.len
  rw [← cs_len, cs_time h0]
  split
  · omega
  · rw [List.length_append, List.length_cons]; omega
theorem ok_time_of {P : Program} {w : World} {K : PySem.W.Frag} {mg : Str → Option Value} {base : Heap} {A : Adr} (T : Txt K mg A) : FnOk P w K mg base (CXE P w) 4 A.f_time_of A.d_time_of ["text"] (spOf K A) := by
  have G_NoText_init := ok_NoText_init (P := P) (w := w) (base := base) T
  have G_is_time := ok_is_time (P := P) (w := w) (base := base) T
  have G_loosely_read := ok_loosely_read (P := P) (w := w) (base := base) T
  have G_time_text := ok_time_text (P := P) (w := w) (base := base) T
  refine T.F_time_of.okE sc_time_of (fun vs H Q E h => ?_) (fun cdv Ar outer s H vs Q E hr h => ?_)
  · obtain ⟨x, rfl, h⟩ := h
    rfl
  · obtain ⟨x, rfl, h⟩ := h
    refine ⟨_, (pss_cons (ps_if (pt_val (pe_callB (call_isiT K) (by rfl) T.b_isinstance boot_isinstance (pa_cons (pv 0) (pa_cons (pe_ty (by rfl) T.b_str boot_strT) pa_nil)))) (pss_cons (ps_set (i := 1) sc_time_of.nd rfl (Or.inl rfl) (pe_call G_loosely_read (hr.mono (by decide)) (by rfl) T.m_loosely_read T.F_loosely_read.kp T.bb_loosely_read .nil passE0 (pa_cons (pv 0) pa_nil)))
      (pss_one (ps_if (PW.pt (pw_and (pt_val (pe_call G_is_time (hr.mono (by decide)) (by rfl) T.m_is_time T.F_is_time.kp T.bb_is_time .nil passE0 (pa_cons (pv 1) pa_nil))) (pw_and1 (pt_cmpR op_eq (pe_call G_time_text (hr.mono (by decide)) (by rfl) T.m_time_text T.F_time_text.kp T.bb_time_text .nil passE0 (pa_cons (pv 1) pa_nil)) (pv 0) (nomark _))))) (pss_one (ps_ret (pv 1))) pss_nil))) pss_nil)
      (pss_one (ps_raiseI T.XI_NoText G_NoText_init (hr.mono (by decide)) (by rfl) T.c_NoText T.bd_NoText_init T.dv_NoText_init (pa_cons pe_str pa_nil)))), ?_⟩
    have fin : ∀ {σ1 : St} {H1 : Hp}, Same H H1 → refuses A H E → tRaiseI E A.C_NoText (spNoText A) [V.int 0] (tCons (tC (V.str (Str.ofString "a time is written in seconds, with at most three figures behind a point"))) tNil) { nx := fun _ H' => Q .non H', rt := Q } σ1 H1 := by
      intro σ1 H1 s1 hr
      refine ⟨by decide, fun ea hea => ⟨ea, _, _, rfl, upd_same, fun dx hdx => ⟨rfl, some dx, ?_, ?_⟩⟩⟩
      · have ne : ea ≠ dx := fun z => by rw [← z, upd_same] at hdx; cases hdx
        rw [upd_ne ne, upd_same]
      · have ne : dx ≠ ea := fun z => by rw [z, upd_same] at hdx; cases hdx
        have hdx1 : H1 dx = none := by rw [upd_ne ne] at hdx; exact hdx
        refine hr dx _ (fun b o e => ?_) ?_
        · have b1 : b ≠ ea := ne_of_none (s1 _ _ e) hea
          have b2 : b ≠ dx := ne_of_none (s1 _ _ e) hdx1
          rw [dropH_ne b1, upd_ne b2, upd_ne b1, upd_ne b1]
          exact s1 _ _ e
        · rw [dropH_ne ne, upd_same]
    have isStr : PySem.W.kitOne K (.type "str") (.type "str") = some true := kit_sub (.inr (.inr (.inr rfl))) (.inr (.inr (.inl rfl)))
    rcases h with ⟨n, h0, h1, rfl, k⟩ | ⟨ny, hr⟩
    · refine seq_cut (fun _ _ => False) (fun N hN => ?_) (fun _ _ z => z.elim)
      refine ⟨_, rfl, _, _, _, _, rfl, .str _, isStr, _, rfl, iteT ?_⟩
      refine seq_cut (fun σ' H' => σ' = [some (.str (timeT n)), some (.int n)] ∧ Same H H') (fun N2 hN2 => ?_) ?_
      · refine ⟨_, rfl, timeT n, rfl, time_len h0 h1, fun v H' hv hw sm => ?_⟩
        have := hw n h0 h1 rfl
        subst this
        exact hN2 _ _ ⟨rfl, sm⟩
      rintro σ' H1 ⟨rfl, sm⟩
      refine ⟨_, rfl, _, _, rfl, Kd.intT h0 h1, _, rfl, iteT ?_⟩
      refine ⟨_, rfl, n, rfl, h0, h1, _, rfl, rfl, _, rfl, ?_⟩
      rw [decide_eq_true rfl]
      exact iteT ⟨_, rfl, k _ sm⟩
    · cases ny with
      | other _ ty ht hb =>
        refine seq_cut (fun _ H' => H' = H) (fun N hN => ?_) ?_
        · exact ⟨_, rfl, _, _, _, _, rfl, ht, hb, _, rfl, iteF (hN _ _ rfl)⟩
        · rintro σ' H1 rfl
          exact fin (Same.refl _) hr
      | txt t hl nt =>
        refine seq_cut (fun _ H' => Same H H') (fun N hN => ?_) ?_
        · refine ⟨_, rfl, _, _, _, _, rfl, .str _, isStr, _, rfl, iteT ?_⟩
          refine seq_cut (fun σ' H' => ∃ v, σ' = [some (.str t), some v] ∧ Same H H' ∧ (v = .non ∨ ∃ m : Int, v = .int m)) (fun N2 hN2 => ?_) ?_
          · exact ⟨_, rfl, t, rfl, hl, fun v H' hv hw sm => hN2 _ _ ⟨v, rfl, sm, hv⟩⟩
          rintro σ' H1 ⟨v, rfl, sm, hv⟩
          rcases hv with rfl | ⟨m, rfl⟩
          · refine ⟨_, rfl, _, _, rfl, .other _ "NoneType" false false .non (kit_sub (.inl rfl) (.inr (.inl rfl))) (kit_sub (.inl rfl) (.inl rfl)) rfl, _, rfl, iteF (iteF (hN _ _ sm))⟩
          · by_cases c : 0 ≤ m ∧ m ≤ 1000000000
            · refine ⟨_, rfl, _, _, rfl, Kd.intT c.1 c.2, _, rfl, iteT ?_⟩
              refine ⟨_, rfl, m, rfl, c.1, c.2, _, rfl, rfl, _, rfl, ?_⟩
              rw [decide_eq_false (fun z => nt m c.1 c.2 (V.str.inj z).symm)]
              exact iteF (hN _ _ sm)
            · refine ⟨_, rfl, _, _, rfl, Kd.intF (by omega), _, rfl, iteF (iteF (hN _ _ sm))⟩
        · rintro σ' H1 sm
          exact fin sm hr
def lampB (z : Str) : Bool := decide ((1 : Int) ≤ (z.length : Int)) && (decide ((z.length : Int) ≤ 8) && (cs z).all isLet)
inductive Lm (K : PySem.W.Frag) (H : Hp) : V → Bool → Prop
  | str (z : Str) (h : z.length ≤ 1000) : Lm K H (.str z) (lampB z)
  | other (x : V) (t : String) (ty : TyOf K H x (.type t)) (h : PySem.W.kitOne K (.type t) (.type "str") = some false) : Lm K H x false
theorem Lm.keep {K : PySem.W.Frag} {H H' : Hp} {x : V} {c : Bool} (h : Lm K H x c) (s : Same H H') : Lm K H' x c := by
  cases h with
  | str z h => exact .str z h
  | other _ t ty h => exact .other x t (tyKeep ty s) h
def spLamp (K : PySem.W.Frag) : Sp := fun vs H Q _ => ∃ x c, vs = [x] ∧ Lm K H x c ∧ ∀ H', Same H H' → Q (.bl c) H'
theorem ok_is_lamp {P : Program} {w : World} {K : PySem.W.Frag} {mg : Str → Option Value} {base : Heap} {A : Adr} (T : Txt K mg A) : FnOk P w K mg base (CXE P w) 1 A.f_is_lamp A.d_is_lamp ["thing"] (spLamp K) := by
  refine T.F_is_lamp.okN sc_is_lamp (fun vs H Q E h => ?_) (fun cdv Ar outer s H vs Q E hr h => ?_)
  · obtain ⟨x, c, rfl, hk, k⟩ := h
    rfl
  · obtain ⟨x, c, rfl, hk, k⟩ := h
    refine ⟨_, (pss_cons (ps_if (pt_not (pt_val (pe_callB (call_isiT K) (by rfl) T.b_isinstance boot_isinstance (pa_cons (pv 0) (pa_cons (pe_ty (by rfl) T.b_str boot_strT) pa_nil))))) (pss_one (ps_ret pe_bl)) pss_nil)
      (pss_one (ps_ret (pe_and (pe_chain op_le op_le pe_int (pe_callB call_len_str (by rfl) T.b_len PySem.boot_len (pa_cons (pv 0) pa_nil)) (pe_gint (by rfl) T.g_MOST_LETTERS)) (pe_one (pe_callB (call_allB K rfl) (by rfl) T.b_all boot_all (pa_cons (pe_comp ["sign"] [none] rfl (pi_str (pv 0)) (fun _ _ _ => (pg_name (i := 0) ndc_is_lamp_0 rfl (Or.inl rfl))) (fun _ _ _ => (pe_cmpR op_in_str (pv 0) (pe_gstr (by rfl) T.g_LETTERS) (by with_unfolding_all rfl)))) pa_nil))))))), ?_⟩
    cases hk with
    | other _ t ty h =>
      refine seq_cut (fun _ _ => False) (fun N hN => ?_) (fun _ _ z => z.elim)
      exact ⟨_, rfl, _, _, _, _, rfl, ty, h, _, rfl, iteT (k _ (Same.refl _))⟩
    | str z hz =>
      refine seq_cut (fun σ' H' => σ' = [some (.str z)] ∧ H' = H) (fun N hN => ?_) ?_
      · exact ⟨_, rfl, _, _, _, _, rfl, .str z, kit_sub (.inr (.inr (.inr rfl))) (.inr (.inr (.inl rfl))), _, rfl, iteF (hN _ _ ⟨rfl, rfl⟩)⟩
      rintro σ' H1 ⟨rfl, rfl⟩
      unfold lampB at k
      refine ⟨_, rfl, _, rfl, le_line hz, _, _, rfl, rfl, _, rfl, ?_⟩
      by_cases c1 : (1 : Int) ≤ (z.length : Int)
      · rw [decide_eq_true c1] at k ⊢
        refine iteT ⟨_, _, rfl, rfl, _, rfl, ?_⟩
        by_cases c2 : (z.length : Int) ≤ 8
        · rw [decide_eq_true c2] at k ⊢
          refine iteT ?_
          refine ⟨_, rfl, _, rfl, fun D hD => comp_str isLet (fun σ => ∃ v, σ = [v]) hD hz ⟨_, rfl⟩ ?_ ?_⟩
          · rintro c σ' H' N' hc ⟨v, rfl⟩ q
            refine ⟨_, rfl, _, _, rfl, rfl, ?_⟩
            rw [show (!(Builtin.Str.occurrences (Str.ofString "abcdefghijklmnopqrstuvwxyz") ⟨#[c]⟩ 0 (Str.ofString "abcdefghijklmnopqrstuvwxyz").length 1).isEmpty) = isLet c from in_lets c]
            exact q _ ⟨_, rfl⟩
          · intro H' s' hD'
            refine ⟨D, _, rfl, SqL.of hD', ?_⟩
            have ea : ((cs z).map isLet).all id = (cs z).all isLet := by rw [List.all_map]; rfl
            rw [ea]
            exact k _ s'
        · rw [decide_eq_false c2] at k ⊢
          exact iteF (k _ (Same.refl _))
      · rw [decide_eq_false c1] at k ⊢
        exact iteF ⟨_, rfl, iteF (k _ (Same.refl _))⟩
abbrev sidesV : List V := [.str (Str.ofString "blue"), .str (Str.ofString "bright"), .str (Str.ofString "green"), .str (Str.ofString "pan"), .str (Str.ofString "red"), .str (Str.ofString "tilt")]
inductive Sd (K : PySem.W.Frag) (H : Hp) : V → Bool → Prop
  | str (z : Str) : Sd K H (.str z) (inV (.str z) sidesV)
  | other (x : V) (t : String) (ty : TyOf K H x (.type t)) (h : PySem.W.kitOne K (.type t) (.type "str") = some false) : Sd K H x false
theorem Sd.keep {K : PySem.W.Frag} {H H' : Hp} {x : V} {c : Bool} (h : Sd K H x c) (s : Same H H') : Sd K H' x c := by
  cases h with
  | str z => exact .str z
  | other _ t ty h => exact .other x t (tyKeep ty s) h
def spSideP (K : PySem.W.Frag) : Sp := fun vs H Q _ => ∃ x c, vs = [x] ∧ Sd K H x c ∧ Q (.bl c) H
theorem ok_is_side {P : Program} {w : World} {K : PySem.W.Frag} {mg : Str → Option Value} {base : Heap} {A : Adr} (T : Txt K mg A) : FnOk P w K mg base (CXE P w) 1 A.f_is_side A.d_is_side ["thing"] (spSideP K) := by
  refine T.F_is_side.okN sc_is_side (fun vs H Q E h => ?_) (fun cdv Ar outer s H vs Q E hr h => ?_)
  · obtain ⟨x, c, rfl, hk, k⟩ := h
    rfl
  · obtain ⟨x, c, rfl, hk, k⟩ := h
    refine ⟨_, (pss_one (ps_ret (pe_and (pe_callB (call_isiT K) (by rfl) T.b_isinstance boot_isinstance (pa_cons (pv 0) (pa_cons (pe_ty (by rfl) T.b_str boot_strT) pa_nil))) (pe_one (pe_cmpR (op_in_seqK K) (pv 0) (pe_glob (v := V.ref _) (by rfl) T.g_SIDES rfl) (by with_unfolding_all rfl)))))), ?_⟩
    cases hk with
    | other _ t ty h => exact ⟨_, rfl, _, _, _, _, rfl, ty, h, _, rfl, iteF k⟩
    | str z =>
      refine ⟨_, rfl, _, _, _, _, rfl, .str z, kit_sub (.inr (.inr (.inr rfl))) (.inr (.inr (.inl rfl))), _, rfl, iteT ?_⟩
      exact ⟨_, rfl, _, _, rfl, .inr (T.s_SIDES _), rfl, rfl, k⟩
open PySem.NumText in
def wholeV (l : List Nat) (most : Int) : V := if l = [] ∨ (l.head? = some 48 ∧ l ≠ [48]) ∨ ¬ l.all isDig = true ∨ most < ((digitsVal l : Nat) : Int) then .non else .int ((digitsVal l : Nat) : Int)
def spWhole (K : PySem.W.Frag) : Sp := fun vs H Q _ => ∃ (z : Str) (most : Int), vs = [.str z, .int most] ∧ z.length ≤ 200 ∧ Q (wholeV (cs z) most) H
theorem zeroT : Str.ofString "0" = ⟨#[48]⟩ := str_one "0" 48 (by decide +kernel)
theorem ok_whole_of {P : Program} {w : World} {K : PySem.W.Frag} {mg : Str → Option Value} {base : Heap} {A : Adr} (T : Txt K mg A) : FnOk P w K mg base (CXE P w) 1 A.f_whole_of A.d_whole_of ["word", "most"] (spWhole K) := by
  refine T.F_whole_of.okN sc_whole_of (fun vs H Q E h => ?_) (fun cdv Ar outer s H vs Q E hr h => ?_)
  · obtain ⟨z, most, rfl, hz, k⟩ := h
    rfl
  · obtain ⟨z, most, rfl, hz, k⟩ := h
    refine ⟨_, (pss_cons (ps_if (PW.pt (pw_or (pt_not (pt_val (pe_callB (call_isiT K) (by rfl) T.b_isinstance boot_isinstance (pa_cons (pv 0) (pa_cons (pe_ty (by rfl) T.b_str boot_strT) pa_nil))))) (pw_or (pt_cmpR op_eq (pv 0) pe_str (nomark _)) (pw_or1 (PW.pt (pw_and (pt_val (pe_bmK K PySem.F.plainAttrs_str PySem.F.slot_str_startswith PySem.F.type_str_startswith mt_startswith (pv 0) (pa_cons pe_str pa_nil))) (pw_and1 (pt_cmpR op_ne (pv 0) pe_str (nomark _))))))))) (pss_one (ps_ret pe_non)) pss_nil)
      (pss_cons (ps_set (i := 2) sc_whole_of.nd rfl (Or.inl rfl) pe_int)
      (pss_cons (ps_for PassesOwn.never rfl (pi_str (pv 0)) (pg_name (i := 3) sc_whole_of.nd rfl (Or.inl rfl)) (pss_cons (ps_if (pt_cmpR op_notin_str (pv 3) (pe_gstr (by rfl) T.g_FIGURES) (by with_unfolding_all rfl)) (pss_one (ps_ret pe_non)) pss_nil)
      (pss_cons (ps_set (i := 2) sc_whole_of.nd rfl (Or.inl rfl) (pe_op op_add (pe_op op_mul (pv 2) pe_int) (pe_callTy call_intT (by rfl) T.b_int boot_int (pa_cons (pv 3) pa_nil))))
      (pss_one (ps_if (pt_cmpR op_gt (pv 2) (pv 1) (nomark _)) (pss_one (ps_ret pe_non)) pss_nil)))))
      (pss_one (ps_ret (pv 2)))))), ?_⟩
    have nay : (cs z = [] ∨ ((cs z).head? = some 48 ∧ cs z ≠ [48]) ∨ ¬ (cs z).all isDig = true ∨ most < ((PySem.NumText.digitsVal (cs z) : Nat) : Int)) → Q .non H := fun c => by
      unfold wholeV at k
      rw [if_pos c] at k
      exact k
    refine seq_cut (fun σ' H' => σ' = [some (.str z), some (.int most), none, none] ∧ H' = H ∧ cs z ≠ [] ∧ ¬ ((cs z).head? = some 48 ∧ cs z ≠ [48])) (fun N hN => ?_) ?_
    · refine ⟨_, rfl, _, _, _, _, rfl, .str z, kit_sub (.inr (.inr (.inr rfl))) (.inr (.inr (.inl rfl))), _, rfl, iteF ?_⟩
      refine ⟨_, rfl, rfl, _, rfl, ?_⟩
      by_cases c0 : cs z = []
      · rw [decide_eq_true (congrArg V.str (cs_inj (by rw [c0, cs_empty])))]
        exact iteT (iteT (nay (.inl c0)))
      rw [decide_eq_false (ne_text (by rw [cs_empty]; exact c0))]
      refine iteF ?_
      refine ⟨_, rfl, rfl, _, _, rfl, rfl, _, rfl, ?_⟩
      rw [show Txt.startswith z (Str.ofString "0") = decide ((cs z).head? = some 48) by rw [zeroT, starts_one]]
      by_cases c1 : (cs z).head? = some 48
      · rw [decide_eq_true c1]
        refine iteT ⟨_, rfl, rfl, _, rfl, ?_⟩
        by_cases c2 : cs z = [48]
        · rw [decide_eq_true (congrArg V.str (cs_inj (by rw [c2, cs_zero])))]
          exact iteF (hN _ _ ⟨rfl, rfl, c0, fun h => h.2 c2⟩)
        · rw [decide_eq_false (ne_text (by rw [cs_zero]; exact c2))]
          exact iteT (nay (.inr (.inl ⟨c1, c2⟩)))
      · rw [decide_eq_false c1]
        exact iteF (iteF (hN _ _ ⟨rfl, rfl, c0, fun h => c1 h.1⟩))
    rintro σ' H1 ⟨rfl, rfl, c0, c1⟩
    refine seq_cut (fun σ' H' => σ' = [some (.str z), some (.int most), some (.int 0), none] ∧ H' = H1) (fun N hN => hN _ _ ⟨rfl, rfl⟩) ?_
    rintro σ' H2 ⟨rfl, rfl⟩
    refine seq_cut (fun σ' H' => ∃ v1 : Option V, σ' = [some (.str z), some (.int most), some (.int (PySem.NumText.digitsVal (cs z))), v1] ∧ H' = H2 ∧ (cs z).all isDig = true ∧ ((PySem.NumText.digitsVal (cs z) : Nat) : Int) ≤ most) (fun N hN => ?_) ?_
    · refine ⟨_, rfl, z, rfl, ?_⟩
      refine for_str (fun i σ H' => ∃ v1 : Option V, σ = [some (.str z), some (.int most), some (.int (PySem.NumText.digitsVal ((cs z).take i))), v1] ∧ H' = H2 ∧ ((cs z).take i).all isDig = true ∧ (i = 0 ∨ ((PySem.NumText.digitsVal ((cs z).take i) : Nat) : Int) ≤ most)) ?_ ?_ ?_
      · exact ⟨_, rfl, rfl, rfl, .inl rfl⟩
      · rintro i c σ H3 hi ⟨v1, rfl, rfl, hd, _⟩
        have hi' : (cs z)[i]? = some c := by rw [← hi]; simp [cs]
        have et : (cs z).take (i + 1) = (cs z).take i ++ [c] := by rw [List.take_add_one, hi']; rfl
        by_cases hc : isDig c = true
        · refine seq_cut (fun σ' H' => σ' = [some (.str z), some (.int most), some (.int (PySem.NumText.digitsVal ((cs z).take i))), some (.str ⟨#[c]⟩)] ∧ H' = H3) (fun N2 hN2 => ?_) ?_
          · refine ⟨_, rfl, _, _, rfl, rfl, _, rfl, ?_⟩
            rw [show (!(Builtin.Str.occurrences (Str.ofString "0123456789") ⟨#[c]⟩ 0 (Str.ofString "0123456789").length 1).isEmpty) = isDig c from in_figs c, hc]
            exact iteF (hN2 _ _ ⟨rfl, rfl⟩)
          rintro σ' H4 ⟨rfl, rfl⟩
          have ec : cs (⟨#[c]⟩ : Str) = [c] := by simp [cs]
          refine seq_cut (fun σ' H' => σ' = [some (.str z), some (.int most), some (.int (PySem.NumText.digitsVal ((cs z).take (i + 1)))), some (.str ⟨#[c]⟩)] ∧ H' = H4) (fun N2 hN2 => ?_) ?_
          · refine ⟨_, rfl, _, _, rfl, rfl, .inr ⟨by decide, by decide⟩, _, rfl, _, rfl, ?_, ?_, ?_, _, _, rfl, rfl, hN2 _ _ ⟨?_, rfl⟩⟩
            · rw [ec]; intro d hd'; rw [List.mem_singleton] at hd'; subst hd'; exact isDig_iff.mp hc
            · rw [ec]; simp
            · show 1 ≤ 640; decide
            · have e1 := val_snoc ((cs z).take i) c hc
              have e2 := val_snoc [] c hc
              have e3 : PySem.NumText.digitsVal [] = 0 := rfl
              rw [List.nil_append, e3] at e2
              rw [et, e1, ec, e2]
              show [_, _, some (V.int (_ * 10 + _)), _] = _
              rw [show ((PySem.NumText.digitsVal ((cs z).take i) : Nat) : Int) * 10 + (10 * ((0 : Nat) : Int) + ((c : Int) - 48)) = 10 * ((PySem.NumText.digitsVal ((cs z).take i) : Nat) : Int) + ((c : Int) - 48) by omega]
          rintro σ' H5 ⟨rfl, rfl⟩
          refine ⟨_, rfl, _, rfl, _, _, rfl, rfl, _, rfl, ?_⟩
          by_cases c2 : most < ((PySem.NumText.digitsVal ((cs z).take (i + 1)) : Nat) : Int)
          · rw [decide_eq_true c2]
            refine iteT (nay ?_)
            by_cases ca : (cs z).all isDig = true
            · refine .inr (.inr (.inr ?_))
              have := val_mono ((cs z).drop (i + 1)) ((cs z).take (i + 1))
              rw [List.take_append_drop] at this
              omega
            · exact .inr (.inr (.inl ca))
          · rw [decide_eq_false c2]
            refine iteF ⟨_, rfl, rfl, ?_, .inr (by omega)⟩
            rw [et, List.all_append, hd]
            simp [hc]
        · refine seq_cut (fun _ _ => False) (fun N2 hN2 => ?_) (fun _ _ z => z.elim)
          refine ⟨_, rfl, _, _, rfl, rfl, _, rfl, ?_⟩
          rw [show (!(Builtin.Str.occurrences (Str.ofString "0123456789") ⟨#[c]⟩ 0 (Str.ofString "0123456789").length 1).isEmpty) = isDig c from in_figs c, Bool.eq_false_iff.mpr hc]
          exact iteT (nay (.inr (.inr (.inl fun all => hc (List.all_eq_true.mp all c (List.mem_of_getElem? hi'))))))
      · rintro σ H3 ⟨v1, rfl, rfl, hd, hm⟩
        have es : z.cps.size = (cs z).length := by simp [cs]
        rw [es, List.take_length] at hd hm
        refine hN _ _ ⟨v1, ?_, rfl, hd, ?_⟩
        · rw [es, List.take_length]
        · rcases hm with h | h
          · exact absurd (List.length_eq_zero_iff.mp h) c0
          · exact h
    rintro σ' H3 ⟨v1, rfl, rfl, hd, hm⟩
    unfold wholeV at k
    rw [if_neg (by rintro (h | h | h | h); exact c0 h; exact c1 h; exact h hd; omega)] at k
    exact ⟨_, rfl, k⟩
def spTicksOf : Sp := fun vs H Q _ => ∃ z : Str, vs = [.str z] ∧ z.length ≤ 100 ∧ ((∃ n : Int, 0 ≤ n ∧ n ≤ 1000000000 ∧ z = timeT n ∧ ∀ H', Same H H' → Q (.int n) H') ∨ (noTime z ∧ ∀ H', Same H H' → Q .non H'))
theorem ok_ticks_of {P : Program} {w : World} {K : PySem.W.Frag} {mg : Str → Option Value} {base : Heap} {A : Adr} (T : Txt K mg A) : FnOk P w K mg base (CXE P w) 5 A.f_ticks_of A.d_ticks_of ["word"] (spTicksOf) := by
  have G_time_of := ok_time_of (P := P) (w := w) (base := base) T
  refine T.F_ticks_of.okN sc_ticks_of (fun vs H Q E h => ?_) (fun cdv Ar outer s H vs Q E hr h => ?_)
  · obtain ⟨z, rfl, hz, h⟩ := h
    rfl
  · obtain ⟨z, rfl, hz, h⟩ := h
    refine ⟨_, (pss_one (ps_tryN K rfl rfl rfl (pb_ret (px_call rfl G_time_of (hr.mono (by decide)) (by rfl) T.m_time_of T.F_time_of.kp T.bb_time_of .nil (fun _ => (pa_cons (pv 0) pa_nil)))) (by rfl) T.c_NoText (fun _ => (pss_one (ps_ret pe_non))))), ?_⟩
    rcases h with ⟨n, n0, n1, rfl, k⟩ | ⟨hn, k⟩
    · exact ⟨_, rfl, _, rfl, .inl ⟨n, n0, n1, rfl, fun H' s => k H' s⟩⟩
    · exact ⟨_, rfl, _, rfl, .inr ⟨.txt z hz hn, fun dx H' s hdx => ⟨T.xe_NoText_NoText, fun ea hea => k _ (s.trans (Same.new hea))⟩⟩⟩
abbrev numT : Str := Str.ofString "NUMBER"
abbrev worT : Str := Str.ofString "WORTH"
abbrev levT : Str := Str.ofString "LEVEL"
abbrev timT : Str := Str.ofString "TIME"
abbrev sidT : Str := Str.ofString "SIDE"
inductive Th : Str → Str → V → Prop
  | num (w : Str) (h : w ≠ Str.ofString "0") : Th numT w (wholeV (cs w) 1000000000)
  | num0 : Th numT (Str.ofString "0") .non
  | worth (w : Str) : Th worT w (wholeV (cs w) 1000000000)
  | level (w : Str) : Th levT w (wholeV (cs w) 1000)
  | time (n : Int) (h0 : 0 ≤ n) (h1 : n ≤ 1000000000) : Th timT (timeT n) (.int n)
  | noTime (w : Str) (h : noTime w) : Th timT w .non
  | side (w : Str) (h : inV (.str w) sidesV = true) : Th sidT w (.str w)
  | noSide (w : Str) (h : inV (.str w) sidesV = false) : Th sidT w .non
  | name (k w : Str) (h : k ≠ numT ∧ k ≠ worT ∧ k ≠ levT ∧ k ≠ timT ∧ k ≠ sidT) (hw : lampB w = true) : Th k w (.str w)
  | noName (k w : Str) (h : k ≠ numT ∧ k ≠ worT ∧ k ≠ levT ∧ k ≠ timT ∧ k ≠ sidT) (hw : lampB w = false) : Th k w .non
theorem kinds_ne : worT ≠ numT ∧ levT ≠ numT ∧ timT ≠ numT ∧ sidT ≠ numT ∧ levT ≠ worT ∧ timT ≠ worT ∧ sidT ≠ worT ∧ timT ≠ levT ∧ sidT ≠ levT ∧ sidT ≠ timT := by decide +kernel
theorem deT {a b : Str} (h : a = b) : decide (V.str a = V.str b) = true := decide_eq_true (by rw [h])
theorem deF {a b : Str} (h : a ≠ b) : decide (V.str a = V.str b) = false := decide_eq_false fun z => h (by injection z)
def spThing : Sp := fun vs H Q _ => ∃ (k w : Str) (v : V), vs = [.str k, .str w] ∧ Th k w v ∧ w.length ≤ 100 ∧ ∀ H', Same H H' → Q v H'
theorem ok_thing_of {P : Program} {w : World} {K : PySem.W.Frag} {mg : Str → Option Value} {base : Heap} {A : Adr} (T : Txt K mg A) : FnOk P w K mg base (CXE P w) 6 A.f_thing_of A.d_thing_of ["kind", "word"] (spThing) := by
  have G_is_lamp := ok_is_lamp (P := P) (w := w) (base := base) T
  have G_is_side := ok_is_side (P := P) (w := w) (base := base) T
  have G_ticks_of := ok_ticks_of (P := P) (w := w) (base := base) T
  have G_whole_of := ok_whole_of (P := P) (w := w) (base := base) T
  refine T.F_thing_of.okN sc_thing_of (fun vs H Q E h => ?_) (fun cdv Ar outer s H vs Q E hr h => ?_)
  · obtain ⟨kk, w, v, rfl, ht, hw, k⟩ := h
    rfl
  · obtain ⟨kk, w, v, rfl, ht, hw, k⟩ := h
    refine ⟨_, (pss_cons (ps_if (pt_cmpR op_eq (pv 0) pe_str (nomark _)) (pss_one (ps_ret (pe_ifExp (pt_cmpR op_eq (pv 1) pe_str (nomark _)) pe_non (pe_call G_whole_of (hr.mono (by decide)) (by rfl) T.m_whole_of T.F_whole_of.kp T.bb_whole_of .nil passE0 (pa_cons (pv 1) (pa_cons (pe_gint (by rfl) T.g_MOST_NUMBER) pa_nil)))))) pss_nil)
      (pss_cons (ps_if (pt_cmpR op_eq (pv 0) pe_str (nomark _)) (pss_one (ps_ret (pe_call G_whole_of (hr.mono (by decide)) (by rfl) T.m_whole_of T.F_whole_of.kp T.bb_whole_of .nil passE0 (pa_cons (pv 1) (pa_cons (pe_gint (by rfl) T.g_MOST_WORTH) pa_nil))))) pss_nil)
      (pss_cons (ps_if (pt_cmpR op_eq (pv 0) pe_str (nomark _)) (pss_one (ps_ret (pe_call G_whole_of (hr.mono (by decide)) (by rfl) T.m_whole_of T.F_whole_of.kp T.bb_whole_of .nil passE0 (pa_cons (pv 1) (pa_cons (pe_gint (by rfl) T.g_MOST_LEVEL) pa_nil))))) pss_nil)
      (pss_cons (ps_if (pt_cmpR op_eq (pv 0) pe_str (nomark _)) (pss_one (ps_ret (pe_call G_ticks_of (hr.mono (by decide)) (by rfl) T.m_ticks_of T.F_ticks_of.kp T.bb_ticks_of .nil passE0 (pa_cons (pv 1) pa_nil)))) pss_nil)
      (pss_cons (ps_if (pt_cmpR op_eq (pv 0) pe_str (nomark _)) (pss_one (ps_ret (pe_ifExp (pt_val (pe_call G_is_side (hr.mono (by decide)) (by rfl) T.m_is_side T.F_is_side.kp T.bb_is_side .nil passE0 (pa_cons (pv 1) pa_nil))) (pv 1) pe_non))) pss_nil)
      (pss_one (ps_ret (pe_ifExp (pt_val (pe_call G_is_lamp (hr.mono (by decide)) (by rfl) T.m_is_lamp T.F_is_lamp.kp T.bb_is_lamp .nil passE0 (pa_cons (pv 1) pa_nil))) (pv 1) pe_non)))))))), ?_⟩
    obtain ⟨e1, e2, e3, e4, e5, e6, e7, e8, e9, e10⟩ := kinds_ne
    cases ht with
    | num _ h =>
      refine seq_cut (fun _ _ => False) (fun N hN => ?_) (fun _ _ z => z.elim)
      refine ⟨_, rfl, rfl, _, rfl, ?_⟩
      rw [deT rfl]
      refine iteT ⟨_, rfl, rfl, _, rfl, ?_⟩
      rw [deF h]
      exact iteF ⟨_, rfl, _, _, rfl, by omega, k _ (Same.refl _)⟩
    | num0 =>
      refine seq_cut (fun _ _ => False) (fun N hN => ?_) (fun _ _ z => z.elim)
      refine ⟨_, rfl, rfl, _, rfl, ?_⟩
      rw [deT rfl]
      refine iteT ⟨_, rfl, rfl, _, rfl, ?_⟩
      rw [deT rfl]
      exact iteT (k _ (Same.refl _))
    | worth =>
      refine seq_cut2 (fun _ _ => False) (fun N hN => ?_) (fun _ _ z => z.elim)
      refine ⟨_, rfl, rfl, _, rfl, ?_⟩
      rw [deF e1]
      refine iteF ⟨_, rfl, rfl, _, rfl, ?_⟩
      rw [deT rfl]
      exact iteT ⟨_, rfl, _, _, rfl, by omega, k _ (Same.refl _)⟩
    | level =>
      refine seq_cut3 (fun _ _ => False) (fun N hN => ?_) (fun _ _ z => z.elim)
      refine ⟨_, rfl, rfl, _, rfl, ?_⟩
      rw [deF e2]
      refine iteF ⟨_, rfl, rfl, _, rfl, ?_⟩
      rw [deF e5]
      refine iteF ⟨_, rfl, rfl, _, rfl, ?_⟩
      rw [deT rfl]
      exact iteT ⟨_, rfl, _, _, rfl, by omega, k _ (Same.refl _)⟩
    | time n h0 h1 =>
      refine seq_cut4 (fun _ _ => False) (fun N hN => ?_) (fun _ _ z => z.elim)
      refine ⟨_, rfl, rfl, _, rfl, ?_⟩
      rw [deF e3]
      refine iteF ⟨_, rfl, rfl, _, rfl, ?_⟩
      rw [deF e6]
      refine iteF ⟨_, rfl, rfl, _, rfl, ?_⟩
      rw [deF e8]
      refine iteF ⟨_, rfl, rfl, _, rfl, ?_⟩
      rw [deT rfl]
      exact iteT ⟨_, rfl, _, rfl, hw, .inl ⟨n, h0, h1, rfl, k⟩⟩
    | noTime _ h =>
      refine seq_cut4 (fun _ _ => False) (fun N hN => ?_) (fun _ _ z => z.elim)
      refine ⟨_, rfl, rfl, _, rfl, ?_⟩
      rw [deF e3]
      refine iteF ⟨_, rfl, rfl, _, rfl, ?_⟩
      rw [deF e6]
      refine iteF ⟨_, rfl, rfl, _, rfl, ?_⟩
      rw [deF e8]
      refine iteF ⟨_, rfl, rfl, _, rfl, ?_⟩
      rw [deT rfl]
      exact iteT ⟨_, rfl, _, rfl, hw, .inr ⟨h, k⟩⟩
    | side _ h =>
      refine ⟨_, rfl, rfl, _, rfl, ?_⟩
      rw [deF e4]
      refine iteF ⟨_, rfl, rfl, _, rfl, ?_⟩
      rw [deF e7]
      refine iteF ⟨_, rfl, rfl, _, rfl, ?_⟩
      rw [deF e9]
      refine iteF ⟨_, rfl, rfl, _, rfl, ?_⟩
      rw [deF e10]
      refine iteF ⟨_, rfl, rfl, _, rfl, ?_⟩
      rw [deT rfl]
      refine iteT ⟨_, rfl, _, _, rfl, .str w, _, rfl, ?_⟩
      rw [h]
      exact iteT ⟨_, rfl, k _ (Same.refl _)⟩
    | noSide _ h =>
      refine ⟨_, rfl, rfl, _, rfl, ?_⟩
      rw [deF e4]
      refine iteF ⟨_, rfl, rfl, _, rfl, ?_⟩
      rw [deF e7]
      refine iteF ⟨_, rfl, rfl, _, rfl, ?_⟩
      rw [deF e9]
      refine iteF ⟨_, rfl, rfl, _, rfl, ?_⟩
      rw [deF e10]
      refine iteF ⟨_, rfl, rfl, _, rfl, ?_⟩
      rw [deT rfl]
      refine iteT ⟨_, rfl, _, _, rfl, .str w, _, rfl, ?_⟩
      rw [h]
      exact iteF (k _ (Same.refl _))
    | name _ _ h hl =>
      obtain ⟨h1, h2, h3, h4, h5⟩ := h
      refine ⟨_, rfl, rfl, _, rfl, ?_⟩
      rw [deF h1]
      refine iteF ⟨_, rfl, rfl, _, rfl, ?_⟩
      rw [deF h2]
      refine iteF ⟨_, rfl, rfl, _, rfl, ?_⟩
      rw [deF h3]
      refine iteF ⟨_, rfl, rfl, _, rfl, ?_⟩
      rw [deF h4]
      refine iteF ⟨_, rfl, rfl, _, rfl, ?_⟩
      rw [deF h5]
      refine iteF ⟨_, rfl, _, _, rfl, .str w (by omega), fun H' s => ⟨_, rfl, ?_⟩⟩
      rw [hl]
      exact iteT ⟨_, rfl, k _ s⟩
    | noName _ _ h hl =>
      obtain ⟨h1, h2, h3, h4, h5⟩ := h
      refine ⟨_, rfl, rfl, _, rfl, ?_⟩
      rw [deF h1]
      refine iteF ⟨_, rfl, rfl, _, rfl, ?_⟩
      rw [deF h2]
      refine iteF ⟨_, rfl, rfl, _, rfl, ?_⟩
      rw [deF h3]
      refine iteF ⟨_, rfl, rfl, _, rfl, ?_⟩
      rw [deF h4]
      refine iteF ⟨_, rfl, rfl, _, rfl, ?_⟩
      rw [deF h5]
      refine iteF ⟨_, rfl, _, _, rfl, .str w (by omega), fun H' s => ⟨_, rfl, ?_⟩⟩
      rw [hl]
      exact iteF (k _ s)
inductive Go : List Str → List Str → Option (List V) → Prop
  | nil : Go [] [] (some [])
  | lit (k : Str) (ks ws : List Str) (r : Option (List V)) (h : Txt.islower k = true) (t : Go ks ws r) : Go (k :: ks) (k :: ws) r
  | litNo (k w : Str) (ks ws : List Str) (h : Txt.islower k = true) (hw : w ≠ k) : Go (k :: ks) (w :: ws) none
  | thing (k w : Str) (v : V) (ks ws : List Str) (r : Option (List V)) (h : Txt.islower k = false) (ht : Th k w v) (hv : v ≠ .non) (t : Go ks ws r) : Go (k :: ks) (w :: ws) (r.map (v :: ·))
  | thingNo (k w : Str) (ks ws : List Str) (h : Txt.islower k = false) (ht : Th k w .non) : Go (k :: ks) (w :: ws) none
def Tb (ks ws : List Str) (r : Option (List V)) : Prop := (ks.length ≠ ws.length ∧ r = none) ∨ (ks.length = ws.length ∧ Go ks ws r)
def spThings : Sp := fun vs H Q _ => ∃ (L M : Addr) (ks ws : List Str) (r : Option (List V)), vs = [.ref L, .ref M] ∧ H L = some (.lst (ks.map V.str)) ∧ H M = some (.lst (ws.map V.str)) ∧ ks.length ≤ 100 ∧ (∀ w ∈ ws, w.length ≤ 100) ∧ Tb ks ws r ∧
  (r = none → ∀ H', Same H H' → Q .non H') ∧ ∀ vs, r = some vs → ∀ N H', H N = none → Same H H' → H' N = some (.lst vs) → Q (.ref N) H'
theorem ok_things_by {P : Program} {w : World} {K : PySem.W.Frag} {mg : Str → Option Value} {base : Heap} {A : Adr} (T : Txt K mg A) : FnOk P w K mg base (CXE P w) 7 A.f_things_by A.d_things_by ["form", "words"] (spThings) := by
  have G_thing_of := ok_thing_of (P := P) (w := w) (base := base) T
  refine T.F_things_by.okN sc_things_by (fun vs H Q E h => ?_) (fun cdv Ar outer s H vs Q E hr h => ?_)
  · obtain ⟨L, M, ks, ws, r, rfl, hL, hM, hkl, hwl, hb, kn, ks'⟩ := h
    rfl
  · obtain ⟨L, M, ks, ws, r, rfl, hL, hM, hkl, hwl, hb, kn, ks'⟩ := h
    refine ⟨_, (pss_cons (ps_if (pt_cmpR op_ne (pe_callB (call_lenK K) (by rfl) T.b_len PySem.boot_len (pa_cons (pv 1) pa_nil)) (pe_callB (call_lenK K) (by rfl) T.b_len PySem.boot_len (pa_cons (pv 0) pa_nil)) (nomark _)) (pss_one (ps_ret pe_non)) pss_nil)
      (pss_cons (ps_set (i := 2) sc_things_by.nd rfl (Or.inl rfl) (pe_lstS pa_nil))
      (pss_cons (ps_for PassesOwn.never rfl (pi_zip K (by rfl) T.b_zip (pa_cons (pv 0) (pa_cons (pv 1) pa_nil))) (pg_tupK (n := 2) K rfl (pgs_cons (pg_name (i := 3) sc_things_by.nd rfl (Or.inl rfl)) (pgs_cons (pg_name (i := 4) sc_things_by.nd rfl (Or.inl rfl)) pgs_nil))) (pss_one (ps_if (pt_val (pe_bm0K K PySem.F.plainAttrs_str PySem.F.slot_str_islower PySem.F.type_str_islower mt_islower (pv 3))) (pss_one (ps_if (pt_cmpR op_ne (pv 4) (pv 3) (nomark _)) (pss_one (ps_ret pe_non)) pss_nil)) (pss_cons (ps_set (i := 5) sc_things_by.nd rfl (Or.inl rfl) (pe_call G_thing_of (hr.mono (by decide)) (by rfl) T.m_thing_of T.F_thing_of.kp T.bb_thing_of .nil passE0 (pa_cons (pv 3) (pa_cons (pv 4) pa_nil))))
      (pss_cons (ps_if (pt_cmp (pc_isN (pv 5))) (pss_one (ps_ret pe_non)) pss_nil)
      (pss_one (ps_expr (pe_bmK K PySem.F.plainAttrs_list PySem.F.slot_list_append PySem.F.type_list_append mt_append (pv 2) (pa_cons (pv 5) pa_nil)))))))))
      (pss_one (ps_ret (pv 2)))))), ?_⟩
    have lk : (ks.map V.str).length = ks.length := List.length_map _
    have lw : (ws.map V.str).length = ws.length := List.length_map _
    rcases hb with ⟨hne, hr⟩ | ⟨heq, hg⟩
    · refine seq_cut (fun _ _ => False) (fun N hN => ?_) (fun _ _ z => z.elim)
      refine ⟨_, rfl, M, _, rfl, .inl (SqL.of hM), _, rfl, L, _, rfl, .inl (SqL.of hL), rfl, _, rfl, ?_⟩
      rw [lk, lw, decide_eq_false (show ¬ V.int (ws.length : Int) = V.int (ks.length : Int) from fun z => hne (by have := V.int.inj z; omega))]
      exact iteT (kn hr _ (Same.refl _))
    refine seq_cut2 (fun σ' H' => ∃ S, σ' = [some (.ref L), some (.ref M), some (.ref S), none, none, none] ∧ H S = none ∧ H' S = some (.lst []) ∧ Same H H') (fun N hN => ?_) ?_
    · refine ⟨_, rfl, M, _, rfl, .inl (SqL.of hM), _, rfl, L, _, rfl, .inl (SqL.of hL), rfl, _, rfl, ?_⟩
      rw [lk, lw, decide_eq_true (show V.int (ws.length : Int) = V.int (ks.length : Int) by rw [heq])]
      exact iteF ⟨by decide, fun S hS => hN _ _ ⟨S, rfl, hS, upd_same, Same.new hS⟩⟩
    rintro σ' H1 ⟨S, rfl, nS, hS, s1⟩
    refine seq_cut (fun σ' H' => ∃ v3 v4 v5 acc, σ' = [some (.ref L), some (.ref M), some (.ref S), v3, v4, v5] ∧ H' S = some (.lst acc) ∧ Same H H' ∧ r = some acc) (fun N hN => ?_) ?_
    · refine ⟨_, rfl, _, rfl, L, M, _, _, rfl, SqL.of (s1 _ _ hL), SqL.of (s1 _ _ hM), ?_⟩
      refine for_zip (K := K) (xs := ks.map V.str) (ys := ws.map V.str) (fun i σ' G => ∃ v3 v4 v5 acc ri, σ' = [some (.ref L), some (.ref M), some (.ref S), v3, v4, v5] ∧ G S = some (.lst acc) ∧ acc.length ≤ i ∧ Same H G ∧ Go (ks.drop i) (ws.drop i) ri ∧ r = ri.map (acc ++ ·)) (by rw [lk, lw]; exact heq) ⟨none, none, none, [], r, rfl, hS, Nat.le_refl _, s1, hg, by cases r <;> rfl⟩ ?_ ?_ ?_
      · rintro i σ' G _ ⟨_, _, _, _, _, _, _, _, sm, _⟩
        exact ⟨SqL.of (sm _ _ hL), SqL.of (sm _ _ hM)⟩
      · rintro i x y q σ' G hx hy ⟨v3, v4, v5, acc, ri, rfl, gS, hal, sm, go, hri⟩ hqn
        rw [List.getElem?_map] at hx hy
        cases hki : ks[i]? with
        | none => rw [hki] at hx; cases hx
        | some kd =>
          cases hwi : ws[i]? with
          | none => rw [hwi] at hy; cases hy
          | some wd =>
            rw [hki] at hx
            rw [hwi] at hy
            obtain rfl : V.str kd = x := by simpa using hx
            obtain rfl : V.str wd = y := by simpa using hy
            have hil : i < ks.length := (List.getElem?_eq_some_iff.mp hki).1
            have ek : ks.drop i = kd :: ks.drop (i + 1) := by rw [List.drop_eq_getElem_cons hil, (List.getElem?_eq_some_iff.mp hki).2]
            have hil2 : i < ws.length := (List.getElem?_eq_some_iff.mp hwi).1
            have ew : ws.drop i = wd :: ws.drop (i + 1) := by rw [List.drop_eq_getElem_cons hil2, (List.getElem?_eq_some_iff.mp hwi).2]
            rw [ek, ew] at go
            have hwd := hwl wd (List.mem_of_getElem? hwi)
            have sq := Same.new (o := HO.tup [V.str kd, V.str wd]) hqn
            have eq : (upd G q (HO.tup [V.str kd, V.str wd])) q = some (HO.tup [V.str kd, V.str wd]) := upd_same
            have gS1 := sq _ _ gS
            have sm1 := sm.trans sq
            generalize upd G q (HO.tup [V.str kd, V.str wd]) = G1 at sq eq gS1 sm1 ⊢
            refine ⟨q, _, rfl, SqT.of eq, rfl, ?_⟩
            refine ⟨_, _, rfl, _, _, rfl, rfl, ?_⟩
            cases go with
            | lit _ _ _ _ h t =>
              refine ⟨_, rfl, rfl, _, rfl, rfl, _, rfl, ?_⟩
              rw [h]
              refine iteT ⟨_, rfl, _, rfl, rfl, _, rfl, ?_⟩
              rw [deT rfl]
              exact iteF ⟨_, _, _, acc, ri, rfl, gS1, by omega, sm1, t, hri⟩
            | litNo _ _ _ _ h hw =>
              refine ⟨_, rfl, rfl, _, rfl, rfl, _, rfl, ?_⟩
              rw [h]
              refine iteT ⟨_, rfl, _, rfl, rfl, _, rfl, ?_⟩
              rw [deF hw]
              exact iteT (kn hri _ sm1)
            | thing _ _ v _ _ ri' h ht hv t =>
              refine ⟨_, rfl, rfl, _, rfl, rfl, _, rfl, ?_⟩
              rw [h]
              refine iteF ⟨_, rfl, _, rfl, kd, wd, v, rfl, ht, hwd, fun G2 s2 => ?_⟩
              refine ⟨_, rfl, _, rfl, ?_⟩
              rw [decide_eq_false hv]
              have gS2 := s2 _ _ gS1
              refine iteF ⟨_, rfl, .inl ⟨rfl, _, SqL.of gS2⟩, _, rfl, S, _, _, rfl, rfl, gS2, Nat.lt_of_lt_of_le (show acc.length < 1000 by omega) (by decide), ⟨_, _, _, acc ++ [v], ri', rfl, upd_same, by rw [List.length_append]; simp; omega, (sm1.trans s2).upd nS, t, ?_⟩⟩
              rw [hri]
              cases ri' with
              | none => rfl
              | some l => simp
            | thingNo _ _ _ _ h ht =>
              refine ⟨_, rfl, rfl, _, rfl, rfl, _, rfl, ?_⟩
              rw [h]
              refine iteF ⟨_, rfl, _, rfl, kd, wd, .non, rfl, ht, hwd, fun G2 s2 => ?_⟩
              exact ⟨_, rfl, _, rfl, iteT (kn hri _ (sm1.trans s2))⟩
      · rintro σ' G ⟨v3, v4, v5, acc, ri, rfl, gS, hal, sm, go, hri⟩
        rw [lk, List.drop_length, heq, List.drop_length] at go
        cases go
        exact hN _ _ ⟨v3, v4, v5, acc, rfl, gS, sm, by rw [hri]; simp⟩
    rintro σ' H2 ⟨v3, v4, v5, acc, rfl, hS2, s2, hr⟩
    exact ⟨_, rfl, ks' acc hr S H2 nS s2 hS2⟩
abbrev blankT : Str := Str.ofString " "
def deedsT : List Str := [Str.ofString "go", Str.ofString "back", Str.ofString "goto NUMBER", Str.ofString "stop", Str.ofString "on", Str.ofString "put NUMBER TIME TIME TIME", Str.ofString "put NUMBER TIME TIME TIME follow TIME", Str.ofString "out NUMBER", Str.ofString "keep NUMBER", Str.ofString "tell NUMBER LAMP SIDE WORTH", Str.ofString "alone NUMBER LAMP SIDE WORTH", Str.ofString "untell NUMBER LAMP SIDE", Str.ofString "block NUMBER", Str.ofString "unblock NUMBER", Str.ofString "fill NAME LAMP SIDE WORTH", Str.ofString "move NAME LEVEL", Str.ofString "down LEVEL", Str.ofString "spare LAMP"]
abbrev lamT : Str := Str.ofString "LAMP"
abbrev namT : Str := Str.ofString "NAME"
abbrev folT : Str := Str.ofString "follow"
def formsT : List (List Str) := [[Str.ofString "go"], [Str.ofString "back"], [Str.ofString "goto", numT], [Str.ofString "stop"], [Str.ofString "on"], [Str.ofString "put", numT, timT, timT, timT], [Str.ofString "put", numT, timT, timT, timT, folT, timT], [Str.ofString "out", numT], [Str.ofString "keep", numT], [Str.ofString "tell", numT, lamT, sidT, worT], [Str.ofString "alone", numT, lamT, sidT, worT], [Str.ofString "untell", numT, lamT, sidT], [Str.ofString "block", numT], [Str.ofString "unblock", numT], [Str.ofString "fill", namT, lamT, sidT, worT], [Str.ofString "move", namT, levT], [Str.ofString "down", levT], [Str.ofString "spare", lamT]]
theorem blank_is : blankT = ⟨#[32]⟩ := str_one " " 32 (by decide +kernel)
theorem forms_are : deedsT.map (fun d => Txt.split d blankT) = formsT := by decide +kernel
theorem forms_short : ∀ f ∈ formsT, f.length ≤ 100 := by decide +kernel
theorem deeds_short : ∀ d ∈ deedsT, d.length ≤ 900 := by decide +kernel
inductive RowOk : List Str → Str → Int → Str → List V → Prop
  | mk (h tk w : Str) (r : List Str) (n : Int) (pre post : List (List Str)) (f : List Str) (vs : List V) (hl : lampB h = true) (ht : wholeV (cs tk) 999999999999 = .int n) (hf : formsT = pre ++ f :: post) (hp : ∀ g ∈ pre, Tb g (w :: r) none) (ho : Tb f (w :: r) (some vs)) : RowOk (h :: tk :: w :: r) h n w vs
inductive RowNo : List Str → Prop
  | hand (h : Str) (r : List Str) (hl : lampB h = false) : RowNo (h :: r)
  | one (h : Str) : RowNo [h]
  | tick (h tk : Str) (r : List Str) (ht : wholeV (cs tk) 999999999999 = .non) : RowNo (h :: tk :: r)
  | deed (h tk : Str) (r : List Str) (n : Int) (ht : wholeV (cs tk) 999999999999 = .int n) (hn : ∀ g ∈ formsT, Tb g r none) : RowNo (h :: tk :: r)
theorem cut_from (xs : List V) (k : Nat) (h : k ≤ xs.length) : cutV xs (some (k : Int)) none = xs.drop k := by
  unfold cutV
  rw [HT.sIx_none, HT.sIx_nat, Nat.min_eq_left h, List.take_of_length_le (by rw [List.length_drop]; omega)]
theorem form_at {i : Nat} {d : Str} (h : deedsT[i]? = some d) : ∃ f, formsT[i]? = some f ∧ Txt.split d blankT = f := by
  refine ⟨_, ?_, rfl⟩
  rw [← forms_are, List.getElem?_map, h]
  rfl
inductive NoRowV (K : PySem.W.Frag) (H : Hp) : V → Prop
  | other (x : V) (t : String) (ty : TyOf K H x (.type t)) (h : PySem.W.kitOne K (.type t) (.type "str") = some false) : NoRowV K H x
  | txt (z : Str) (hz : z.length ≤ 800) (hw : ∀ w ∈ Txt.split z blankT, w.length ≤ 100) (h : RowNo (Txt.split z blankT)) : NoRowV K H (.str z)
def spRowX (K : PySem.W.Frag) (A : Adr) : Sp := fun vs H _ E => ∃ x, vs = [x] ∧ NoRowV K H x ∧ ∀ H', Same H H' → E (.ref A.C_NoRow) none H'
def spRowG : Sp := fun vs H Q _ => ∃ (z h w : Str) (n : Int) (os : List V), vs = [.str z] ∧ z.length ≤ 800 ∧ (∀ w ∈ Txt.split z blankT, w.length ≤ 100) ∧ RowOk (Txt.split z blankT) h n w os ∧ ∀ p N H', H N = none → Same H H' → H' p = some (.tup [.str h, .int n, .str w, .ref N]) → H' N = some (.lst os) → Q (.ref p) H'
theorem okG_row_of {P : Program} {w : World} {K : PySem.W.Frag} {mg : Str → Option Value} {base : Heap} {A : Adr} (T : Txt K mg A) : FnOk P w K mg base (CXE P w) 8 A.f_row_of A.d_row_of ["row"] (spRowG) := by
  have G_is_lamp := ok_is_lamp (P := P) (w := w) (base := base) T
  have G_things_by := ok_things_by (P := P) (w := w) (base := base) T
  have G_whole_of := ok_whole_of (P := P) (w := w) (base := base) T
  refine T.F_row_of.okE sc_row_of (fun vs H Q E h => ?_) (fun cdv Ar outer s H vs Q E hr h => ?_)
  · obtain ⟨z, h, w, n, os, rfl, hz, hwl, hok, k⟩ := h
    rfl
  · obtain ⟨z, h, w, n, os, rfl, hz, hwl, hok, k⟩ := h
    refine ⟨_, (pss_cons (ps_if (pt_not (pt_val (pe_callB (call_isiT K) (by rfl) T.b_isinstance boot_isinstance (pa_cons (pv 0) (pa_cons (pe_ty (by rfl) T.b_str boot_strT) pa_nil))))) (pss_one (ps_raise T.x_NoRow (by rfl) T.c_NoRow (pa_cons pe_str pa_nil))) pss_nil)
      (pss_cons (ps_set (i := 1) sc_row_of.nd rfl (Or.inl rfl) (pe_bmK K PySem.F.plainAttrs_str PySem.F.slot_str_split PySem.F.type_str_split mt_split (pv 0) (pa_cons pe_str pa_nil)))
      (pss_cons (ps_set (i := 2) sc_row_of.nd rfl (Or.inl rfl) (pe_ifExp (pt_cmpR op_gt (pe_callB (call_lenK K) (by rfl) T.b_len PySem.boot_len (pa_cons (pv 1) pa_nil)) pe_int (nomark _)) (pe_call G_whole_of (hr.mono (by decide)) (by rfl) T.m_whole_of T.F_whole_of.kp T.bb_whole_of .nil passE0 (pa_cons (pe_ix (ix_listK K) (pv 1) pe_int (fun _ _ => rfl)) (pa_cons (pe_gint (by rfl) T.g_MOST_TICK) pa_nil))) pe_non))
      (pss_cons (ps_if (PW.pt (pw_or (pt_not (pt_val (pe_call G_is_lamp (hr.mono (by decide)) (by rfl) T.m_is_lamp T.F_is_lamp.kp T.bb_is_lamp .nil passE0 (pa_cons (pe_ix (ix_listK K) (pv 1) pe_int (fun _ _ => rfl)) pa_nil)))) (pw_or1 (pt_cmp (pc_isN (pv 2)))))) (pss_one (ps_raise T.x_NoRow (by rfl) T.c_NoRow (pa_cons pe_str pa_nil))) pss_nil)
      (pss_cons (ps_for PassesOwn.leaving rfl (pi_tupK K (pe_glob (v := V.ref _) (by rfl) T.g_DEEDS rfl)) (pg_name (i := 3) sc_row_of.nd rfl (Or.inl rfl)) (pss_cons (ps_set (i := 4) sc_row_of.nd rfl (Or.inl rfl) (pe_call G_things_by (hr.mono (by decide)) (by rfl) T.m_things_by T.F_things_by.kp T.bb_things_by .nil passE0 (pa_cons (pe_bmK K PySem.F.plainAttrs_str PySem.F.slot_str_split PySem.F.type_str_split mt_split (pv 3) (pa_cons pe_str pa_nil)) (pa_cons (pe_slice (sl_listK K) (pv 1) (po_some pe_int) po_none) pa_nil))))
      (pss_one (ps_if (pt_cmp (pc_notN (pv 4))) (pss_one (ps_ret (pe_tupS (pa_cons (pe_ix (ix_listK K) (pv 1) pe_int (fun _ _ => rfl)) (pa_cons (pv 2) (pa_cons (pe_ix (ix_listK K) (pv 1) pe_int (fun _ _ => rfl)) (pa_cons (pv 4) pa_nil))))))) pss_nil))))
      (pss_one (ps_raise T.x_NoRow (by rfl) T.c_NoRow (pa_cons pe_str pa_nil)))))))), ?_⟩
    generalize hws : Txt.split z blankT = ws at hwl hok
    cases hok with
    | mk _ tk _ r _ pre post f _ hl ht hf hp ho =>
      have hh := hwl h (by simp)
      have htk := hwl tk (by simp)
      have hlen : formsT.length = 18 := by decide +kernel
      have hdl : deedsT.length = 18 := by decide +kernel
      refine seq_cut2 (fun σ' H' => ∃ L, σ' = [some (.str z), some (.ref L), none, none, none] ∧ Same H H' ∧ H' L = some (.lst ((h :: tk :: w :: r).map V.str))) (fun N hN => ?_) ?_
      · refine ⟨_, rfl, _, _, _, _, rfl, .str z, kit_sub (.inr (.inr (.inr rfl))) (.inr (.inr (.inl rfl))), _, rfl, iteF ?_⟩
        refine ⟨_, rfl, rfl, z, blankT, rfl, rfl, by decide +kernel, by omega, fun L hL => ?_⟩
        rw [hws]
        exact hN _ _ ⟨L, rfl, Same.new hL, upd_same⟩
      rintro σ' H1 ⟨L, rfl, s1, hL⟩
      refine seq_cut2 (fun σ' H' => σ' = [some (.str z), some (.ref L), some (.int n), none, none] ∧ Same H1 H') (fun N hN => ?_) ?_
      · refine ⟨_, rfl, L, _, rfl, .inl (SqL.of hL), _, _, rfl, rfl, _, rfl, ?_⟩
        rw [show decide ((1 : Int) < (((h :: tk :: w :: r).map V.str).length : Nat)) = true from decide_eq_true (by simp; omega)]
        refine iteT ⟨_, rfl, L, _, _, _, rfl, rfl, SqL.of hL, atI_1 _ _ _, tk, _, rfl, by omega, ?_⟩
        rw [ht]
        refine ⟨_, rfl, L, _, _, _, rfl, rfl, SqL.of hL, atI_0 _ _, _, _, rfl, .str h (by omega), fun H2 s2 => ⟨_, rfl, ?_⟩⟩
        rw [hl]
        refine iteF ⟨_, rfl, _, rfl, ?_⟩
        rw [decide_eq_false (show ¬ V.int n = V.non from fun z => by cases z)]
        exact iteF (hN _ _ ⟨rfl, s2⟩)
      rintro σ' H2 ⟨rfl, s2⟩
      have s12 := s1.trans s2
      refine seq_cut (fun _ _ => False) (fun N hN => ?_) (fun _ _ z => z.elim)
      refine ⟨A.S_DEEDS, rfl, ⟨_, T.s_DEEDS _⟩, for_tup (xs := deedsT.map V.str) (fun i σ' G => ∃ v3 v4, σ' = [some (.str z), some (.ref L), some (.int n), v3, v4] ∧ Same H2 G ∧ i ≤ pre.length) ⟨_, _, rfl, Same.refl _, Nat.zero_le _⟩ ?_ ?_ ?_⟩
      · rintro i σ' G _ _
        exact T.s_DEEDS G
      · rintro i v σ' G hv ⟨v3, v4, rfl, sm, hip⟩
        rw [List.getElem?_map] at hv
        cases hdi : deedsT[i]? with
        | none => rw [hdi] at hv; cases hv
        | some d =>
          rw [hdi] at hv
          obtain rfl : V.str d = v := by simpa using hv
          obtain ⟨g, hg, hsp⟩ := form_at hdi
          have s1G := s2.trans sm
          have gL := s1G _ _ hL
          refine ⟨_, rfl, rfl, d, blankT, rfl, rfl, by decide +kernel, deeds_short d (List.mem_of_getElem? hdi), fun F hF => ?_⟩
          rw [hsp]
          have tF := Same.new (o := HO.lst (g.map V.str)) hF
          have eF : (upd G F (HO.lst (g.map V.str))) F = some (HO.lst (g.map V.str)) := upd_same
          generalize upd G F (HO.lst (g.map V.str)) = G1 at tF eF ⊢
          refine ⟨_, rfl, _, rfl, L, _, rfl, SqL.of (tF _ _ gL), fun M hM => ?_⟩
          have ec : cutV ((h :: tk :: w :: r).map V.str) (some 2) none = (w :: r).map V.str := cut_from _ 2 (by simp)
          rw [ec]
          have tM := Same.new (o := HO.lst ((w :: r).map V.str)) hM
          have eM : (upd G1 M (HO.lst ((w :: r).map V.str))) M = some (HO.lst ((w :: r).map V.str)) := upd_same
          generalize upd G1 M (HO.lst ((w :: r).map V.str)) = G2 at tM eM ⊢
          have s2G2 := (sm.trans tF).trans tM
          have hw2 : ∀ x ∈ w :: r, x.length ≤ 100 := fun x hx => hwl x (List.mem_cons_of_mem _ (List.mem_cons_of_mem _ hx))
          by_cases c : i < pre.length
          · have hgp : g ∈ pre := by
              rw [hf, List.getElem?_append_left c] at hg
              exact List.mem_of_getElem? hg
            refine ⟨F, M, g, w :: r, none, rfl, tM _ _ eF, eM, forms_short g (by rw [hf]; exact List.mem_append_left _ hgp), hw2, hp g hgp, (fun _ G3 s3 => ?_), (fun vs z => by cases z)⟩
            refine ⟨_, rfl, _, rfl, ?_⟩
            rw [decide_eq_true rfl]
            exact iteF ⟨_, _, rfl, s2G2.trans s3, c⟩
          · obtain rfl : i = pre.length := by omega
            obtain rfl : f = g := by
              rw [hf, List.getElem?_append_right (Nat.le_refl _), Nat.sub_self] at hg
              simpa using hg
            refine ⟨F, M, f, w :: r, some os, rfl, tM _ _ eF, eM, forms_short f (by rw [hf]; simp), hw2, ho, (fun z => by cases z), (fun vs z => ?_)⟩
            cases z
            intro N' G3 nN s3 hN3
            refine ⟨_, rfl, _, rfl, ?_⟩
            rw [decide_eq_false (show ¬ V.ref N' = V.non from fun z => by cases z)]
            have gL3 := (s1G.trans ((tF.trans tM).trans s3)) _ _ hL
            refine iteT ⟨_, rfl, L, _, _, _, rfl, rfl, SqL.of gL3, atI_0 _ _, _, rfl, _, rfl, L, _, _, _, rfl, rfl, SqL.of gL3, atI_2 _ _ _ _, _, rfl, (by show 4 ≤ 1000; decide), fun p hp' => ?_⟩
            exact k p N' _ ((s12.trans s2G2).free nN) ((s12.trans (s2G2.trans s3)).trans (Same.new hp')) upd_same ((Same.new hp') _ _ hN3)
      · rintro σ' G ⟨v3, v4, rfl, sm, hip⟩
        have e1 := congrArg List.length hf
        rw [hlen, List.length_append, List.length_cons] at e1
        rw [List.length_map, hdl] at hip
        omega
def tickV : List Str → V
  | _ :: tk :: _ => wholeV (cs tk) 999999999999
  | _ => .non
theorem row_no {ws : List Str} (h : RowNo ws) : ∃ (x : Str) (r : List Str), ws = x :: r ∧ (lampB x = false ∨ tickV ws = .non ∨ ∃ (tk : Str) (q : List Str) (n : Int), r = tk :: q ∧ tickV ws = .int n ∧ ∀ g ∈ formsT, Tb g q none) := by
  cases h with
  | hand x r hl => exact ⟨x, r, rfl, .inl hl⟩
  | one x => exact ⟨x, [], rfl, .inr (.inl rfl)⟩
  | tick x tk r ht => exact ⟨x, tk :: r, rfl, .inr (.inl ht)⟩
  | deed x tk r n ht hn => exact ⟨x, tk :: r, rfl, .inr (.inr ⟨tk, r, n, rfl, ht, hn⟩)⟩
theorem okX_row_of {P : Program} {w : World} {K : PySem.W.Frag} {mg : Str → Option Value} {base : Heap} {A : Adr} (T : Txt K mg A) : FnOk P w K mg base (CXE P w) 8 A.f_row_of A.d_row_of ["row"] (spRowX K A) := by
  have G_is_lamp := ok_is_lamp (P := P) (w := w) (base := base) T
  have G_things_by := ok_things_by (P := P) (w := w) (base := base) T
  have G_whole_of := ok_whole_of (P := P) (w := w) (base := base) T
  refine T.F_row_of.okE sc_row_of (fun vs H Q E h => ?_) (fun cdv Ar outer s H vs Q E hr h => ?_)
  · obtain ⟨x, rfl, hx, e⟩ := h
    rfl
  · obtain ⟨x, rfl, hx, e⟩ := h
    refine ⟨_, (pss_cons (ps_if (pt_not (pt_val (pe_callB (call_isiT K) (by rfl) T.b_isinstance boot_isinstance (pa_cons (pv 0) (pa_cons (pe_ty (by rfl) T.b_str boot_strT) pa_nil))))) (pss_one (ps_raise T.x_NoRow (by rfl) T.c_NoRow (pa_cons pe_str pa_nil))) pss_nil)
      (pss_cons (ps_set (i := 1) sc_row_of.nd rfl (Or.inl rfl) (pe_bmK K PySem.F.plainAttrs_str PySem.F.slot_str_split PySem.F.type_str_split mt_split (pv 0) (pa_cons pe_str pa_nil)))
      (pss_cons (ps_set (i := 2) sc_row_of.nd rfl (Or.inl rfl) (pe_ifExp (pt_cmpR op_gt (pe_callB (call_lenK K) (by rfl) T.b_len PySem.boot_len (pa_cons (pv 1) pa_nil)) pe_int (nomark _)) (pe_call G_whole_of (hr.mono (by decide)) (by rfl) T.m_whole_of T.F_whole_of.kp T.bb_whole_of .nil passE0 (pa_cons (pe_ix (ix_listK K) (pv 1) pe_int (fun _ _ => rfl)) (pa_cons (pe_gint (by rfl) T.g_MOST_TICK) pa_nil))) pe_non))
      (pss_cons (ps_if (PW.pt (pw_or (pt_not (pt_val (pe_call G_is_lamp (hr.mono (by decide)) (by rfl) T.m_is_lamp T.F_is_lamp.kp T.bb_is_lamp .nil passE0 (pa_cons (pe_ix (ix_listK K) (pv 1) pe_int (fun _ _ => rfl)) pa_nil)))) (pw_or1 (pt_cmp (pc_isN (pv 2)))))) (pss_one (ps_raise T.x_NoRow (by rfl) T.c_NoRow (pa_cons pe_str pa_nil))) pss_nil)
      (pss_cons (ps_for PassesOwn.leaving rfl (pi_tupK K (pe_glob (v := V.ref _) (by rfl) T.g_DEEDS rfl)) (pg_name (i := 3) sc_row_of.nd rfl (Or.inl rfl)) (pss_cons (ps_set (i := 4) sc_row_of.nd rfl (Or.inl rfl) (pe_call G_things_by (hr.mono (by decide)) (by rfl) T.m_things_by T.F_things_by.kp T.bb_things_by .nil passE0 (pa_cons (pe_bmK K PySem.F.plainAttrs_str PySem.F.slot_str_split PySem.F.type_str_split mt_split (pv 3) (pa_cons pe_str pa_nil)) (pa_cons (pe_slice (sl_listK K) (pv 1) (po_some pe_int) po_none) pa_nil))))
      (pss_one (ps_if (pt_cmp (pc_notN (pv 4))) (pss_one (ps_ret (pe_tupS (pa_cons (pe_ix (ix_listK K) (pv 1) pe_int (fun _ _ => rfl)) (pa_cons (pv 2) (pa_cons (pe_ix (ix_listK K) (pv 1) pe_int (fun _ _ => rfl)) (pa_cons (pv 4) pa_nil))))))) pss_nil))))
      (pss_one (ps_raise T.x_NoRow (by rfl) T.c_NoRow (pa_cons pe_str pa_nil)))))))), ?_⟩
    cases hx with
    | other _ t ty h =>
      refine seq_cut (fun _ _ => False) (fun N hN => ?_) (fun _ _ z => z.elim)
      exact ⟨_, rfl, _, _, _, _, rfl, ty, h, _, rfl, iteT ⟨by decide, e _ (Same.refl _)⟩⟩
    | txt z hz hwl hno =>
      generalize hws : Txt.split z blankT = ws at hwl hno
      have hlen : formsT.length = 18 := by decide +kernel
      have hdl : deedsT.length = 18 := by decide +kernel
      refine seq_cut2 (fun σ' H' => ∃ L, σ' = [some (.str z), some (.ref L), none, none, none] ∧ Same H H' ∧ H' L = some (.lst (ws.map V.str))) (fun N hN => ?_) ?_
      · refine ⟨_, rfl, _, _, _, _, rfl, .str z, kit_sub (.inr (.inr (.inr rfl))) (.inr (.inr (.inl rfl))), _, rfl, iteF ?_⟩
        refine ⟨_, rfl, rfl, z, blankT, rfl, rfl, by decide +kernel, by omega, fun L hL => ?_⟩
        rw [hws]
        exact hN _ _ ⟨L, rfl, Same.new hL, upd_same⟩
      rintro σ' H1 ⟨L, rfl, s1, hL⟩
      obtain ⟨x, r, rfl, hcase⟩ := row_no hno
      have hx := hwl x (by simp)
      refine seq_cut (fun σ' H' => σ' = [some (.str z), some (.ref L), some (tickV (x :: r)), none, none] ∧ H' = H1) (fun N hN => ?_) ?_
      · refine ⟨_, rfl, L, _, rfl, .inl (SqL.of hL), _, _, rfl, rfl, _, rfl, ?_⟩
        cases r with
        | nil => exact iteF (hN _ _ ⟨rfl, rfl⟩)
        | cons tk q =>
          rw [show decide ((1 : Int) < (((x :: tk :: q).map V.str).length : Nat)) = true from decide_eq_true (by simp; omega)]
          exact iteT ⟨_, rfl, L, _, _, _, rfl, rfl, SqL.of hL, atI_1 _ _ _, tk, _, rfl, by have := hwl tk (by simp); omega, hN _ _ ⟨rfl, rfl⟩⟩
      rintro σ' H2 ⟨rfl, rfl⟩
      refine seq_cut (fun σ' H' => (σ' = [some (.str z), some (.ref L), some (tickV (x :: r)), none, none] ∧ Same H2 H') ∧ lampB x = true ∧ tickV (x :: r) ≠ .non) (fun N hN => ?_) ?_
      · refine ⟨_, rfl, L, _, _, _, rfl, rfl, SqL.of hL, atI_0 _ _, _, _, rfl, .str x (by omega), fun H3 s3 => ⟨_, rfl, ?_⟩⟩
        cases hl : lampB x with
        | false => exact iteT (iteT ⟨by decide, e _ (s1.trans s3)⟩)
        | true =>
          refine iteF ⟨_, rfl, _, rfl, ?_⟩
          by_cases hv : tickV (x :: r) = .non
          · rw [decide_eq_true hv]
            exact iteT ⟨by decide, e _ (s1.trans s3)⟩
          · rw [decide_eq_false hv]
            exact iteF (hN _ _ ⟨⟨rfl, s3⟩, hl, hv⟩)
      rintro σ' H3 ⟨⟨rfl, s3⟩, hl, hv⟩
      obtain ⟨tk, q, n, rfl, htn, hn⟩ : ∃ (tk : Str) (q : List Str) (n : Int), r = tk :: q ∧ tickV (x :: r) = .int n ∧ ∀ g ∈ formsT, Tb g q none := by
        rcases hcase with c | c | c
        · rw [hl] at c; cases c
        · exact absurd c hv
        · exact c
      have s13 := s1.trans s3
      refine seq_cut (fun σ' H' => Same H3 H') (fun N hN => ?_) ?_
      · refine ⟨A.S_DEEDS, rfl, ⟨_, T.s_DEEDS _⟩, for_tup (xs := deedsT.map V.str) (fun i σ' G => ∃ v3 v4, σ' = [some (.str z), some (.ref L), some (tickV (x :: tk :: q)), v3, v4] ∧ Same H3 G) ⟨_, _, rfl, Same.refl _⟩ ?_ ?_ ?_⟩
        · rintro i σ' G _ _
          exact T.s_DEEDS G
        · rintro i v σ' G hvi ⟨v3, v4, rfl, sm⟩
          rw [List.getElem?_map] at hvi
          cases hdi : deedsT[i]? with
          | none => rw [hdi] at hvi; cases hvi
          | some d =>
            rw [hdi] at hvi
            obtain rfl : V.str d = v := by simpa using hvi
            obtain ⟨g, hg, hsp⟩ := form_at hdi
            have gL := (s3.trans sm) _ _ hL
            refine ⟨_, rfl, rfl, d, blankT, rfl, rfl, by decide +kernel, deeds_short d (List.mem_of_getElem? hdi), fun F hF => ?_⟩
            rw [hsp]
            have tF := Same.new (o := HO.lst (g.map V.str)) hF
            have eF : (upd G F (HO.lst (g.map V.str))) F = some (HO.lst (g.map V.str)) := upd_same
            generalize upd G F (HO.lst (g.map V.str)) = G1 at tF eF ⊢
            refine ⟨_, rfl, _, rfl, L, _, rfl, SqL.of (tF _ _ gL), fun M hM => ?_⟩
            have ec : cutV ((x :: tk :: q).map V.str) (some 2) none = q.map V.str := cut_from _ 2 (by simp)
            rw [ec]
            have tM := Same.new (o := HO.lst (q.map V.str)) hM
            have eM : (upd G1 M (HO.lst (q.map V.str))) M = some (HO.lst (q.map V.str)) := upd_same
            generalize upd G1 M (HO.lst (q.map V.str)) = G2 at tM eM ⊢
            have hgm := List.mem_of_getElem? hg
            refine ⟨F, M, g, q, none, rfl, tM _ _ eF, eM, forms_short g hgm, (fun y hy => hwl y (List.mem_cons_of_mem _ (List.mem_cons_of_mem _ hy))), hn g hgm, (fun _ G3 s4 => ?_), (fun vs z => by cases z)⟩
            refine ⟨_, rfl, _, rfl, ?_⟩
            rw [decide_eq_true rfl]
            exact iteF ⟨_, _, rfl, ((sm.trans tF).trans tM).trans s4⟩
        · rintro σ' G ⟨v3, v4, rfl, sm⟩
          exact hN _ _ sm
      intro σ' H4 s4
      exact ⟨by decide, e _ (s13.trans s4)⟩
theorem whole_sec {n most : Int} (h0 : 0 ≤ n) (h1 : n ≤ most) : wholeV (cs (secT n)) most = .int n := by
  obtain ⟨⟨a, b, c⟩, d, _⟩ := sec_ok h0
  unfold wholeV
  rw [if_neg, d]
  rintro (h | ⟨h, h'⟩ | h | h)
  · exact b h
  · rcases c with c | c
    · exact h' c
    · exact c h
  · exact h a
  · omega
theorem whole_is {l : List Nat} {most : Int} (h : wholeV l most ≠ .non) : okS l := by
  unfold wholeV at h
  by_cases c : l = [] ∨ (l.head? = some 48 ∧ l ≠ [48]) ∨ ¬ l.all isDig = true ∨ most < ((PySem.NumText.digitsVal l : Nat) : Int)
  · rw [if_pos c] at h; exact absurd rfl h
  · refine ⟨Classical.byContradiction fun z => c (.inr (.inr (.inl z))), fun z => c (.inl z), ?_⟩
    by_cases e : l = [48]
    · exact .inl e
    · exact .inr fun z => c (.inr (.inl ⟨z, e⟩))
inductive Spoil (x : Str) : Str → Prop
  | ahead : Spoil x (Str.ofString "0" ++ x)
  | behind : Spoil x (x ++ Str.ofString "000000000000")
  | tab : Spoil x (x ++ Str.ofString "\t")
theorem zeros_cs : cs (Str.ofString "000000000000") = List.replicate 12 48 := by decide +kernel
theorem tab_cs : cs (Str.ofString "\t") = [9] := by decide +kernel
theorem val_zeros (l : List Nat) : ∀ k, ((PySem.NumText.digitsVal (l ++ List.replicate k 48) : Nat) : Int) = (PySem.NumText.digitsVal l : Int) * 10 ^ k
  | 0 => by simp
  | k + 1 => by
    rw [List.replicate_succ', ← List.append_assoc, val_snoc _ _ (by decide), val_zeros l k]
    have e : (PySem.NumText.digitsVal l : Int) * 10 ^ (k + 1) = 10 * ((PySem.NumText.digitsVal l : Int) * 10 ^ k) := by rw [Int.pow_succ, Int.mul_comm (10 ^ k) 10, Int.mul_left_comm]
    rw [e]
    generalize (PySem.NumText.digitsVal l : Int) * 10 ^ k = X
    omega
theorem spoil_ne {x y : Str} (h : Spoil x y) : y ≠ x := by
  intro e
  have l := congrArg (fun z : Str => (cs z).length) e
  cases h with
  | ahead => simp only [cs_app, cs_zero, List.length_append, List.length_cons, List.length_nil] at l; omega
  | behind => simp only [cs_app, zeros_cs, List.length_append, List.length_replicate] at l; omega
  | tab => simp only [cs_app, tab_cs, List.length_append, List.length_cons, List.length_nil] at l; omega
theorem whole_spoilt {z : Str} {most : Int} (hz : okS (cs z)) (h1 : most ≤ 999999999999) {x : Str} (h : Spoil z x) : wholeV (cs x) most = .non := by
  obtain ⟨a, b, c⟩ := hz
  unfold wholeV
  rw [if_pos]
  cases h with
  | ahead =>
    refine .inr (.inl ⟨?_, fun e => ?_⟩)
    · rw [cs_app, cs_zero]; rfl
    · rw [cs_app, cs_zero] at e
      exact b (by simpa using e)
  | behind =>
    rcases c with c | c
    · refine .inr (.inl ⟨?_, fun e => ?_⟩)
      · rw [cs_app, c]; rfl
      · have := congrArg List.length e
        rw [cs_app, c, zeros_cs] at this
        simp at this
    · refine .inr (.inr (.inr ?_))
      rw [cs_app, zeros_cs, val_zeros]
      have n0 : PySem.NumText.digitsVal (cs z) ≠ 0 := fun e => by
        have s := sec_of ⟨a, b, .inr c⟩
        rw [e] at s
        have : cs (secT ((0 : Nat) : Int)) = [48] := by decide +kernel
        rw [this] at s
        rw [← s] at c
        exact c rfl
      have : (1 : Int) ≤ (PySem.NumText.digitsVal (cs z) : Int) := by omega
      have p : (10 : Int) ^ 12 = 1000000000000 := by decide
      rw [p]
      omega
  | tab =>
    refine .inr (.inr (.inl fun e => ?_))
    have := List.all_eq_true.mp e 9 (by rw [cs_app, tab_cs]; simp)
    exact absurd this (by decide)
theorem not_lamp {x : Str} {c : Nat} (h : c ∈ cs x) (hc : isLet c = false) : lampB x = false := by
  unfold lampB
  have : (cs x).all isLet = false := by
    rw [Bool.eq_false_iff]
    intro e
    rw [List.all_eq_true.mp e c h] at hc
    cases hc
  rw [this, Bool.and_false, Bool.and_false]
theorem spoil_has {z x : Str} (h : Spoil z x) : ∃ c, c ∈ cs x ∧ isLet c = false := by
  cases h with
  | ahead => exact ⟨48, by rw [cs_app, cs_zero]; simp, by decide⟩
  | behind => exact ⟨48, by rw [cs_app, zeros_cs]; simp, by decide⟩
  | tab => exact ⟨9, by rw [cs_app, tab_cs]; simp, by decide⟩
theorem not_side {x : Str} {c : Nat} (h : c ∈ cs x) (hc : isLet c = false) : inV (.str x) sidesV = false := by
  rw [Bool.eq_false_iff]
  intro e
  have key : ∀ s : Str, (cs s).all isLet = true → eqV (.str s) (.str x) = true → False := fun s hs he => by
    have es : s = x := by simpa [eqV] using he
    rw [← es] at h
    rw [List.all_eq_true.mp hs c h] at hc
    cases hc
  unfold inV at e
  obtain ⟨y, hy, hd⟩ := List.any_eq_true.mp e
  simp only [sidesV, List.mem_cons, List.not_mem_nil, or_false] at hy
  rcases hy with rfl | rfl | rfl | rfl | rfl | rfl <;> exact key _ (by decide +kernel) hd
theorem time_all {n : Int} (h0 : 0 ≤ n) (h1 : n ≤ 1000000000) : (cs (timeT n)).length ≤ 11 ∧ (∀ c ∈ cs (timeT n), isDig c = true ∨ c = 46) ∧ ∃ c r, cs (timeT n) = c :: r ∧ isDig c = true := by
  obtain ⟨⟨a, b, c⟩, d, _⟩ := sec_ok (n := n / 1000) (by omega)
  have l7 := sec_len7 (n := n / 1000) (by omega) (by omega)
  have hp := plc (r := n % 1000) (by omega) (by omega)
  have hd : ∀ x ∈ cs (secT (n / 1000)), isDig x = true := fun x hx => List.all_eq_true.mp a x hx
  obtain ⟨s, q, es⟩ : ∃ s q, cs (secT (n / 1000)) = s :: q := by
    cases e : cs (secT (n / 1000)) with
    | nil => exact absurd e b
    | cons s q => exact ⟨s, q, rfl⟩
  have hs : isDig s = true := hd s (by rw [es]; simp)
  rw [cs_time h0]
  split
  · exact ⟨by omega, fun x hx => .inl (hd x hx), s, q, es, hs⟩
  · refine ⟨?_, fun x hx => ?_, s, q ++ 46 :: cs (plcT (n % 1000)), by rw [es]; rfl, hs⟩
    · have := hp.len
      rw [List.length_append, List.length_cons]; omega
    · rcases List.mem_append.mp hx with hx | hx
      · exact .inl (hd x hx)
      · rcases List.mem_cons.mp hx with hx | hx
        · exact .inr hx
        · exact .inl (List.all_eq_true.mp hp.dig x hx)
theorem time_spoilt {n : Int} (h0 : 0 ≤ n) (h1 : n ≤ 1000000000) {x : Str} (h : Spoil (timeT n) x) : noTime x := by
  intro m m0 m1 e
  obtain ⟨t1, t2, c, r, t3, t4⟩ := time_all h0 h1
  obtain ⟨u1, u2, _⟩ := time_all m0 m1
  cases h with
  | ahead =>
    have ec : cs (timeT m) = 48 :: c :: r := by rw [← e, cs_app, cs_zero, t3]; rfl
    obtain ⟨⟨a, b, d⟩, _, _⟩ := sec_ok (n := m / 1000) (by omega)
    rw [cs_time m0] at ec
    have key : ∀ q : List Nat, cs (secT (m / 1000)) ++ q = 48 :: c :: r → cs (secT (m / 1000)) = [48] ∧ q = c :: r := fun q eq => by
      cases es : cs (secT (m / 1000)) with
      | nil => exact absurd es b
      | cons s w =>
        rw [es] at eq d
        have e1 : s = 48 := (List.cons.inj eq).1
        rcases d with d | d
        · obtain ⟨_, rfl⟩ := List.cons.inj d
          exact ⟨by rw [e1], (List.cons.inj eq).2⟩
        · exact absurd (by rw [e1]; rfl) d
    split at ec
    · have := key [] (by rw [List.append_nil]; exact ec)
      exact absurd this.2 (by simp)
    · have := (key _ ec).2
      have e46 : (46 : Nat) = c := (List.cons.inj this).1
      rw [← e46] at t4
      exact absurd t4 (by decide)
  | behind =>
    have := congrArg (fun z : Str => (cs z).length) e
    simp only [cs_app, zeros_cs, List.length_append, List.length_replicate] at this
    omega
  | tab =>
    have : (9 : Nat) ∈ cs (timeT m) := by rw [← e, cs_app, tab_cs]; simp
    rcases u2 9 this with z | z
    · exact absurd z (by decide)
    · exact absurd z (by decide)
theorem th_spoilt {k z x : Str} {v : V} (h : Th k z v) (hv : v ≠ .non) (hs : Spoil z x) : Th k x .non := by
  obtain ⟨c, hc, hl⟩ := spoil_has hs
  have x0 : x ≠ Str.ofString "0" ∨ z = Str.ofString "" := by
    by_cases e : x = Str.ofString "0"
    · right
      have l := congrArg (fun z : Str => (cs z).length) e
      cases hs with
      | ahead =>
        simp only [cs_app, cs_zero, List.length_append, List.length_cons, List.length_nil] at l
        exact cs_inj (by rw [cs_empty]; exact List.length_eq_zero_iff.mp (by omega))
      | behind => simp only [cs_app, zeros_cs, cs_zero, List.length_append, List.length_replicate, List.length_cons, List.length_nil] at l; omega
      | tab =>
        simp only [cs_app, tab_cs, cs_zero, List.length_append, List.length_cons, List.length_nil] at l
        exact cs_inj (by rw [cs_empty]; exact List.length_eq_zero_iff.mp (by omega))
    · exact .inl e
  cases h with
  | num _ h =>
    have ok := whole_is hv
    have := Th.num x (x0.resolve_right fun e => ok.2.1 (by rw [e, cs_empty]))
    rwa [whole_spoilt ok (by decide) hs] at this
  | num0 => exact absurd rfl hv
  | worth =>
    have := Th.worth x
    rwa [whole_spoilt (whole_is hv) (by decide) hs] at this
  | level =>
    have := Th.level x
    rwa [whole_spoilt (whole_is hv) (by decide) hs] at this
  | time n h0 h1 => exact .noTime x (time_spoilt h0 h1 hs)
  | noTime => exact absurd rfl hv
  | side => exact .noSide x (not_side hc hl)
  | noSide => exact absurd rfl hv
  | name _ _ h => exact .noName k x h (not_lamp hc hl)
  | noName => exact absurd rfl hv
theorem go_spoilt {ks ws : List Str} {o : Option (List V)} (h : Go ks ws o) : ∀ {vs : List V}, o = some vs → ∀ {i : Nat} {z x : Str}, ws[i]? = some z → Spoil z x → Go ks (ws.set i x) none := by
  induction h with
  | nil => intro vs _ i z x hi; simp at hi
  | lit k ks ws r h t ih =>
    intro vs e i z x hi hs
    cases i with
    | zero =>
      simp only [List.getElem?_cons_zero, Option.some.injEq] at hi
      subst hi
      exact .litNo k x ks ws h (spoil_ne hs)
    | succ i =>
      simp only [List.getElem?_cons_succ] at hi
      exact .lit k ks _ none h (ih e hi hs)
  | litNo => intro vs e; cases e
  | thing k w v ks ws r h ht hv t ih =>
    intro vs e i z x hi hs
    cases i with
    | zero =>
      simp only [List.getElem?_cons_zero, Option.some.injEq] at hi
      subst hi
      exact .thingNo k x ks ws h (th_spoilt ht hv hs)
    | succ i =>
      simp only [List.getElem?_cons_succ] at hi
      obtain ⟨us, eu⟩ : ∃ us, r = some us := by
        cases r with
        | none => cases e
        | some us => exact ⟨us, rfl⟩
      exact .thing k w v ks _ none h ht hv (ih eu hi hs)
  | thingNo => intro vs e; cases e
theorem form_head : ∀ f ∈ formsT, f ≠ [] ∧ Txt.islower (f.headD blankT) = true ∧ (cs (f.headD blankT)).all isLet = true := by decide +kernel
theorem forms_apart : ∀ f ∈ formsT, ∀ g ∈ formsT, f.headD blankT = g.headD blankT → (f = g ∨ f.length ≠ g.length) ∧ g.length ≠ f.length + 1 := by decide +kernel
theorem forms_nodup : formsT.Nodup := by decide +kernel
theorem tb_other {g : List Str} (hg : g ∈ formsT) {w : Str} {r : List Str} (h : g.headD blankT ≠ w ∨ g.length ≠ (w :: r).length) : Tb g (w :: r) none := by
  by_cases hl : g.length = (w :: r).length
  · obtain ⟨h1, h2, _⟩ := form_head g hg
    cases g with
    | nil => exact absurd rfl h1
    | cons k ks =>
      refine .inr ⟨hl, .litNo k w ks r h2 fun e => ?_⟩
      rcases h with h | h
      · exact h e.symm
      · exact h hl
  · exact .inl ⟨hl, rfl⟩
structure Good (h : Str) (n : Int) (w : Str) (r : List Str) (vs : List V) (f : List Str) : Prop where
  hand : lampB h = true
  n0 : 0 ≤ n
  n1 : n ≤ 999999999999
  mem : f ∈ formsT
  head : f.headD blankT = w
  go : Go f (w :: r) (some vs)
  len : f.length = (w :: r).length
theorem Good.tick {h : Str} {n : Int} {w : Str} {r : List Str} {vs : List V} {f : List Str} (g : Good h n w r vs f) : wholeV (cs (secT n)) 999999999999 = .int n := whole_sec g.n0 g.n1
theorem Good.ok {h : Str} {n : Int} {w : Str} {r : List Str} {vs : List V} {f : List Str} (g : Good h n w r vs f) : RowOk (h :: secT n :: w :: r) h n w vs := by
  obtain ⟨pre, post, e⟩ := List.append_of_mem g.mem
  refine .mk h (secT n) w r n pre post f vs g.hand g.tick e (fun y hy => ?_) (.inr ⟨g.len, g.go⟩)
  have ym : y ∈ formsT := by rw [e]; exact List.mem_append_left _ hy
  have yne : y ≠ f := fun z => by
    have nd := forms_nodup
    rw [e] at nd
    have := (List.nodup_append.mp nd).2.2 y hy f (by simp)
    exact this z
  by_cases c : y.headD blankT = w
  · rcases (forms_apart y ym f g.mem (c.trans g.head.symm)).1 with z | z
    · exact absurd z yne
    · exact tb_other ym (.inr fun q => z (q.trans g.len.symm))
  · exact tb_other ym (.inl c)
theorem Good.more {h : Str} {n : Int} {w : Str} {r : List Str} {vs : List V} {f : List Str} (g : Good h n w r vs f) (x : Str) : RowNo (h :: secT n :: w :: (r ++ [x])) := by
  refine .deed h _ _ n g.tick fun y ym => ?_
  by_cases c : y.headD blankT = w
  · refine tb_other ym (.inr fun q => (forms_apart f g.mem y ym (g.head.trans c.symm)).2 ?_)
    rw [q, g.len]; simp
  · exact tb_other ym (.inl c)
theorem Good.less {h : Str} {n : Int} {w : Str} {r : List Str} {vs : List V} {f : List Str} (g : Good h n w r vs f) : RowNo ((h :: secT n :: w :: r).dropLast) := by
  cases r with
  | nil =>
    refine .deed h _ [] n g.tick fun y ym => .inl ⟨fun q => (form_head y ym).1 (List.length_eq_zero_iff.mp q), rfl⟩
  | cons x q =>
    show RowNo (h :: secT n :: w :: (x :: q).dropLast)
    refine .deed h _ _ n g.tick fun y ym => ?_
    by_cases c : y.headD blankT = w
    · refine tb_other ym (.inr fun e => (forms_apart y ym f g.mem (c.trans g.head.symm)).2 ?_)
      rw [g.len, e]; simp
    · exact tb_other ym (.inl c)
theorem empty_lamp : lampB (Str.ofString "") = false := by decide +kernel
theorem no_ahead {ws : List Str} : RowNo (Str.ofString "" :: ws) := .hand _ _ empty_lamp
theorem no_gap {h : Str} {ws : List Str} : RowNo (h :: Str.ofString "" :: ws) := .tick h _ ws (by unfold wholeV; rw [if_pos (.inl cs_empty)])
theorem no_minus {h z : Str} {ws : List Str} : RowNo (h :: (Str.ofString "-" ++ z) :: ws) := by
  refine .tick h _ ws ?_
  unfold wholeV
  rw [if_pos]
  refine .inr (.inr (.inl fun e => ?_))
  have c : cs (Str.ofString "-") = [45] := by decide +kernel
  have := List.all_eq_true.mp e 45 (by rw [cs_app, c]; simp)
  exact absurd this (by decide)
theorem Good.zero {h : Str} {n : Int} {w : Str} {r : List Str} {vs : List V} {f : List Str} (g : Good h n w r vs f) {ws : List Str} : RowNo (h :: (Str.ofString "0" ++ secT n) :: ws) :=
  .tick h _ ws (whole_spoilt (sec_ok g.n0).1 (by decide) .ahead)
theorem Good.spoilt {h : Str} {n : Int} {w : Str} {r : List Str} {vs : List V} {f : List Str} (g : Good h n w r vs f) {i : Nat} {z x : Str} (hi : (h :: secT n :: w :: r)[i]? = some z) (hs : Spoil z x) : RowNo ((h :: secT n :: w :: r).set i x) := by
  obtain ⟨c, hc, hl⟩ := spoil_has hs
  match i, hi with
  | 0, hi => exact .hand _ _ (not_lamp hc hl)
  | 1, hi =>
    obtain rfl : secT n = z := by simpa using hi
    exact .tick h x _ (whole_spoilt (sec_ok g.n0).1 (by decide) hs)
  | 2, hi =>
    refine .deed h _ _ n g.tick fun y ym => tb_other ym (.inl fun e => ?_)
    have := (form_head y ym).2.2
    rw [e, List.all_eq_true] at this
    rw [this c hc] at hl
    cases hl
  | i + 3, hi =>
    refine .deed h _ _ n g.tick fun y ym => ?_
    show Tb y (w :: r.set i x) none
    by_cases c : y.headD blankT = w
    · rcases (forms_apart y ym f g.mem (c.trans g.head.symm)).1 with e | e
      · subst e
        have hi' : (w :: r)[i + 1]? = some z := by simpa using hi
        exact .inr ⟨by rw [g.len]; simp, go_spoilt g.go rfl hi' hs⟩
      · exact tb_other ym (.inr fun q => e (by rw [q, g.len]; simp))
    · exact tb_other ym (.inl c)
def spCell (K : PySem.W.Frag) : Sp := fun vs H Q _ => ∃ (a : Addr) (ns : List Int) (i : Int), vs = [.ref a, .int i] ∧ SqL K H a (ns.map V.int) ∧ 0 ≤ i ∧ ∀ v, Q (.int v) H
theorem ok_law_cell_at {P : Program} {w : World} {K : PySem.W.Frag} {mg : Str → Option Value} {base : Heap} {A : Adr} (T : Txt K mg A) : FnOk P w K mg base (CXE P w) 1 A.f_law_cell_at A.d_law_cell_at ["_law_script", "_law_k"] (spCell K) := by
  refine T.F_law_cell_at.okN sc_law_cell_at (fun vs H Q E h => ?_) (fun cdv Ar outer s H vs Q E hr h => ?_)
  · obtain ⟨a, ns, i, rfl, hS, hi, k⟩ := h
    rfl
  · obtain ⟨a, ns, i, rfl, hS, hi, k⟩ := h
    refine ⟨_, (pss_cons (ps_if (pt_cmpR op_lt (pv 1) (pe_callB (call_lenK K) (by rfl) T.b_len PySem.boot_len (pa_cons (pv 0) pa_nil)) (nomark _)) (pss_one (ps_ret (pe_ix (ix_listK K) (pv 0) (pv 1) (fun _ _ => rfl)))) pss_nil)
      (pss_one (ps_ret pe_int))), ?_⟩
    refine ⟨_, rfl, _, rfl, a, _, rfl, .inl hS, _, _, rfl, rfl, _, rfl, ?_⟩
    refine ite2 (fun c => ?_) (fun c => ?_)
    · have c := of_decide_eq_true c
      rw [List.length_map] at c
      obtain ⟨v, hv⟩ : ∃ v, ns[i.toNat]? = some v := ⟨_, List.getElem?_eq_getElem (by omega)⟩
      refine ⟨_, rfl, _, rfl, a, _, _, _, rfl, rfl, hS, ?_, k v⟩
      have := atI_nat (xs := ns.map V.int) (j := i.toNat) (v := .int v) (by rw [List.getElem?_map, hv]; rfl)
      rwa [Int.toNat_of_nonneg hi] at this
    · exact k 0
def big : Int := 1000000000000000000000000000000000000000000000000000000000000
def spNum : Sp := fun vs H Q _ => ∃ (c : Int) (i : Nat), vs = [.int c, .int (i : Int)] ∧ i < 63 ∧ ∀ m, 0 ≤ m → m < big → Q (.int m) H
theorem ok_law_number {P : Program} {w : World} {K : PySem.W.Frag} {mg : Str → Option Value} {base : Heap} {A : Adr} (T : Txt K mg A) : FnOk P w K mg base (CXE P w) 1 A.f_law_number A.d_law_number ["_law_cell", "_law_k"] (spNum) := by
  refine T.F_law_number.okN sc_law_number (fun vs H Q E h => ?_) (fun cdv Ar outer s H vs Q E hr h => ?_)
  · obtain ⟨c, i, rfl, hi, k⟩ := h
    rfl
  · obtain ⟨c, i, rfl, hi, k⟩ := h
    refine ⟨_, (pss_cons (ps_if (PW.pt (pw_and (pt_cmpR op_eq (pe_op op_mod (pv 0) pe_int) pe_int (nomark _)) (pw_and1 (pt_cmpR op_gt (pv 0) (pe_op op_powS pe_int pe_int) (nomark _))))) (pss_one (ps_ret (pe_op op_mod (pe_op op_fdivL (pv 0) pe_int) (pe_op op_powS pe_int pe_int)))) pss_nil)
      (pss_one (ps_ret (pe_op op_mod (pe_op op_mul (pe_op op_add (pe_op op_mod (pv 0) (pe_op op_powS pe_int pe_int)) pe_int) (pe_op op_add pe_int (pe_op op_mul (pe_op op_mul pe_int (pv 1)) (pv 1)))) pe_int)))), ?_⟩
    have hb : (10 : Int) ^ Int.toNat 60 = big := by decide
    refine seq_cut (fun σ' H' => σ' = [some (.int c), some (.int i)] ∧ H' = H) (fun N hN => ?_) ?_
    · refine ⟨_, rfl, _, _, rfl, rfl, (by show (0 : Int) < 2; decide), rfl, _, rfl, ?_⟩
      refine ite2 (fun _ => ?_) (fun _ => iteF (hN _ _ ⟨rfl, rfl⟩))
      refine ⟨_, rfl, _, _, rfl, rfl, ⟨by decide, by decide, by decide, by decide⟩, _, _, rfl, rfl, _, rfl, ?_⟩
      refine ite2 (fun _ => ?_) (fun _ => hN _ _ ⟨rfl, rfl⟩)
      refine ⟨_, rfl, _, _, rfl, rfl, ⟨by decide, by decide⟩, _, _, rfl, rfl, ⟨by decide, by decide, by decide, by decide⟩, _, _, rfl, rfl, (by show (0 : Int) < 10 ^ 60; decide), k _ (Int.emod_nonneg _ (by decide)) ?_⟩
      have := Int.emod_lt_of_pos (c / 2) (show (0 : Int) < big by decide)
      rw [← hb] at this ⊢
      exact this
    rintro σ' H1 ⟨rfl, rfl⟩
    have kk : (i : Int) * i ≤ 3844 := by
      have : i * i ≤ 62 * 62 := Nat.mul_le_mul (by omega) (by omega)
      have e : ((i * i : Nat) : Int) = (i : Int) * i := by push_cast; rfl
      omega
    have k0 : 0 ≤ (i : Int) * i := Int.mul_nonneg (by omega) (by omega)
    have e3 : 7919 * (i : Int) * i = 7919 * ((i : Int) * i) := Int.mul_assoc _ _ _
    refine ⟨_, rfl, _, _, rfl, rfl, ⟨by decide, by decide, by decide, by decide⟩, _, _, rfl, rfl, (by show (0 : Int) < 10 ^ 30; decide), _, _, rfl, rfl, _, rfl, _, _, rfl, rfl, .inl ⟨by decide, by decide⟩, _, rfl, _, _, rfl, rfl, .inr ⟨by omega, by omega⟩, _, _, rfl, rfl, _, _, rfl, rfl, .inr ⟨?_, ?_⟩, _, _, rfl, rfl, (by show (0 : Int) < 2147483629; decide), k _ (Int.emod_nonneg _ (by decide)) ?_⟩
    · show -(2 ^ 64) < 48271 + 7919 * (i : Int) * i
      rw [e3]; omega
    · show 48271 + 7919 * (i : Int) * i < 2 ^ 64
      rw [e3]; omega
    · exact Int.lt_trans (Int.emod_lt_of_pos _ (by decide)) (by decide)
def spWhL : Sp := fun vs H Q _ => ∃ i : Int, vs = [.int i] ∧ Q (.bl true) H
theorem ok_law_whole {P : Program} {w : World} {K : PySem.W.Frag} {mg : Str → Option Value} {base : Heap} {A : Adr} (T : Txt K mg A) : FnOk P w K mg base (CXE P w) 1 A.f_law_whole A.d_law_whole ["_law_found"] (spWhL) := by
  refine T.F_law_whole.okN sc_law_whole (fun vs H Q E h => ?_) (fun cdv Ar outer s H vs Q E hr h => ?_)
  · obtain ⟨i, rfl, k⟩ := h
    rfl
  · obtain ⟨i, rfl, k⟩ := h
    refine ⟨_, (pss_one (ps_ret (pe_and (pe_callB (call_isiT K) (by rfl) T.b_isinstance boot_isinstance (pa_cons (pv 0) (pa_cons (pe_ty (by rfl) T.b_int boot_int) pa_nil))) (pe_one (pe_not (pe_callB (call_isiT K) (by rfl) T.b_isinstance boot_isinstance (pa_cons (pv 0) (pa_cons (pe_ty (by rfl) T.b_bool boot_bool) pa_nil)))))))), ?_⟩
    refine ⟨_, rfl, _, _, _, _, rfl, .int i, kit_sub (.inr (.inr (.inl rfl))) (.inl rfl), _, rfl, iteT ?_⟩
    exact ⟨_, rfl, _, _, _, _, rfl, .int i, kit_sub (.inr (.inr (.inl rfl))) (.inr (.inl rfl)), _, rfl, k⟩
theorem lets_len : lets.length = 26 := by rw [← cs_len, lets_are]; rfl
theorem lets_let : ∀ c ∈ cs lets, isLet c = true := by decide +kernel
theorem lets_at (j : Int) : ∃ c, atI (cs lets) (j % 26) = some c ∧ isLet c = true := by
  have hl : (j % 26).toNat < (cs lets).length := by rw [cs_len, lets_len]; omega
  refine ⟨(cs lets)[(j % 26).toNat], ?_, lets_let _ (List.getElem_mem hl)⟩
  have := atI_nat (xs := cs lets) (j := (j % 26).toNat) (List.getElem?_eq_getElem hl)
  rwa [Int.toNat_of_nonneg (by omega)] at this
theorem lamp_of {z : Str} (h0 : 1 ≤ z.length) (h1 : z.length ≤ 8) (h2 : (cs z).all isLet = true) : lampB z = true := by
  unfold lampB
  rw [h2, decide_eq_true (by omega), decide_eq_true (by omega)]; rfl
def spNameL : Sp := fun vs H Q _ => ∃ m : Int, vs = [.int m] ∧ 0 ≤ m ∧ ∀ z : Str, lampB z = true → Q (.str z) H
theorem ok_law_name {P : Program} {w : World} {K : PySem.W.Frag} {mg : Str → Option Value} {base : Heap} {A : Adr} (T : Txt K mg A) : FnOk P w K mg base (CXE P w) 1 A.f_law_name A.d_law_name ["_law_number_here"] (spNameL) := by
  refine T.F_law_name.okN sc_law_name (fun vs H Q E h => ?_) (fun cdv Ar outer s H vs Q E hr h => ?_)
  · obtain ⟨m, rfl, h0, k⟩ := h
    rfl
  · obtain ⟨m, rfl, h0, k⟩ := h
    refine ⟨_, (pss_cons (ps_set (i := 1) sc_law_name.nd rfl (Or.inl rfl) pe_str)
      (pss_cons (ps_set (i := 2) sc_law_name.nd rfl (Or.inl rfl) pe_str)
      (pss_cons (ps_for PassesOwn.never rfl (pi_range1 (by rfl) T.b_range (pa_cons (pe_op op_add pe_int (pe_op op_mod (pv 0) pe_int)) pa_nil)) (pg_name (i := 3) sc_law_name.nd rfl (Or.inl rfl)) (pss_one (ps_set (i := 2) sc_law_name.nd rfl (Or.inl rfl) (pe_op op_add_str (pv 2) (pe_ix ix_str (pv 1) (pe_op op_mod (pe_op op_add (pe_op op_fdivL (pe_op op_fdivL (pv 0) pe_int) (pe_op op_add (pv 3) pe_int)) (pe_op op_mul (pv 3) (pv 3))) pe_int) (fun _ _ => rfl))))))
      (pss_one (ps_ret (pv 2)))))), ?_⟩
    refine seq_cut (fun σ' H' => σ' = [some (.int m), some (.str lets), none, none] ∧ H' = H) (fun N hN => hN _ _ ⟨rfl, rfl⟩) ?_
    rintro σ' H1 ⟨rfl, rfl⟩
    refine seq_cut (fun σ' H' => σ' = [some (.int m), some (.str lets), some (.str (Str.ofString "")), none] ∧ H' = H1) (fun N hN => hN _ _ ⟨rfl, rfl⟩) ?_
    rintro σ' H2 ⟨rfl, rfl⟩
    refine seq_cut (fun σ' H' => ∃ (z : Str) (v1 : Option V), σ' = [some (.int m), some (.str lets), some (.str z), v1] ∧ H' = H2 ∧ (z.length : Int) = 1 + m % 8 ∧ (cs z).all isLet = true) (fun N hN => ?_) ?_
    · refine ⟨_, rfl, _, _, rfl, rfl, (by show (0 : Int) < 8; decide), _, _, rfl, rfl, _, rfl, by omega, by omega, ?_⟩
      refine for_range (n := (1 + m % 8).toNat) (fun i σ H' => ∃ (z : Str) (v1 : Option V), σ = [some (.int m), some (.str lets), some (.str z), v1] ∧ H' = H2 ∧ z.length = i ∧ (cs z).all isLet = true) ?_ ?_ ?_
      · exact ⟨_, _, rfl, rfl, rfl, by rw [cs_empty]; rfl⟩
      · rintro i σ H4 hi ⟨z, v1, rfl, rfl, hz, hza⟩
        have hj := lets_at
        refine ⟨_, rfl, _, rfl, _, rfl, _, _, rfl, rfl, ⟨by decide, by decide⟩, _, rfl, _, _, rfl, rfl, _, _, rfl, rfl, ⟨by omega, ?_⟩, _, rfl, _, rfl, _, _, rfl, rfl, .inr ⟨by omega, by omega⟩, _, _, rfl, rfl, _, _, rfl, rfl, (by show (0 : Int) < 26; decide), _, _, _, rfl, rfl, ?_, (hj _).choose_spec.1, _, _, rfl, rfl, ?_, _, _, rfl, rfl, ?_, ?_⟩
        · exact Int.lt_trans (show (0 : Int) + (i : Int) + 1 < 100 by omega) (by decide)
        · rw [lets_len]; exact le_line (by decide)
        · exact le_line (by show z.length + 1 ≤ 1000; omega)
        · rw [app_len, hz]; rfl
        · rw [cs_app, List.all_append, hza]
          have h := fun j => (lets_at j).choose_spec.2
          simp only [cs, List.all_cons, List.all_nil, Bool.and_true, Bool.true_and]
          exact h _
      · rintro σ H4 ⟨z, v1, rfl, rfl, hz, hza⟩
        exact hN _ _ ⟨z, v1, rfl, rfl, by omega, hza⟩
    rintro σ' H4 ⟨z, v1, rfl, rfl, hz, hza⟩
    exact ⟨_, rfl, k _ (lamp_of (by omega) (by omega) hza)⟩
def spTicksL : Sp := fun vs H Q _ => ∃ m : Int, vs = [.int m] ∧ 0 ≤ m ∧ ∀ t, 0 ≤ t → t ≤ 1000000000 → Q (.int t) H
theorem ok_law_ticks {P : Program} {w : World} {K : PySem.W.Frag} {mg : Str → Option Value} {base : Heap} {A : Adr} (T : Txt K mg A) : FnOk P w K mg base (CXE P w) 1 A.f_law_ticks A.d_law_ticks ["_law_number_here"] (spTicksL) := by
  refine T.F_law_ticks.okN sc_law_ticks (fun vs H Q E h => ?_) (fun cdv Ar outer s H vs Q E hr h => ?_)
  · obtain ⟨m, rfl, h0, k⟩ := h
    rfl
  · obtain ⟨m, rfl, h0, k⟩ := h
    refine ⟨_, (pss_cons (ps_if (pt_cmpR op_eq (pe_op op_mod (pv 0) pe_int) pe_int (nomark _)) (pss_one (ps_ret pe_int)) pss_nil)
      (pss_cons (ps_if (pt_cmpR op_eq (pe_op op_mod (pv 0) pe_int) pe_int (nomark _)) (pss_one (ps_ret (pe_op op_mod (pe_op op_fdivL (pv 0) pe_int) pe_int))) pss_nil)
      (pss_cons (ps_if (pt_cmpR op_eq (pe_op op_mod (pv 0) pe_int) pe_int (nomark _)) (pss_one (ps_ret (pe_op op_mul (pe_op op_mod (pe_op op_fdivL (pv 0) pe_int) pe_int) pe_int))) pss_nil)
      (pss_one (ps_ret (pe_op op_mod (pe_op op_mul (pe_op op_fdivL (pv 0) pe_int) pe_int) (pe_op op_add (pe_op op_powS pe_int pe_int) pe_int))))))), ?_⟩
    refine seq_cut (fun σ' H' => σ' = [some (.int m)] ∧ H' = H) (fun N hN => ?_) ?_
    · refine ⟨_, rfl, _, _, rfl, rfl, (by show (0 : Int) < 4; decide), rfl, _, rfl, ?_⟩
      exact ite2 (fun _ => k 0 (by decide) (by decide)) (fun _ => hN _ _ ⟨rfl, rfl⟩)
    rintro σ' H1 ⟨rfl, rfl⟩
    refine seq_cut (fun σ' H' => σ' = [some (.int m)] ∧ H' = H1) (fun N hN => ?_) ?_
    · refine ⟨_, rfl, _, _, rfl, rfl, (by show (0 : Int) < 4; decide), rfl, _, rfl, ?_⟩
      refine ite2 (fun _ => ?_) (fun _ => hN _ _ ⟨rfl, rfl⟩)
      exact ⟨_, rfl, _, _, rfl, rfl, ⟨by decide, by decide⟩, _, _, rfl, rfl, (by show (0 : Int) < 4000; decide), k _ (Int.emod_nonneg _ (by decide)) (by have := Int.emod_lt_of_pos (m / 4) (show (0 : Int) < 4000 by decide); omega)⟩
    rintro σ' H2 ⟨rfl, rfl⟩
    refine seq_cut (fun σ' H' => σ' = [some (.int m)] ∧ H' = H2) (fun N hN => ?_) ?_
    · refine ⟨_, rfl, _, _, rfl, rfl, (by show (0 : Int) < 4; decide), rfl, _, rfl, ?_⟩
      refine ite2 (fun _ => ?_) (fun _ => hN _ _ ⟨rfl, rfl⟩)
      exact ⟨_, rfl, _, _, rfl, rfl, ⟨by decide, by decide⟩, _, _, rfl, rfl, (by show (0 : Int) < 1000; decide), _, _, rfl, rfl, .inr ⟨by decide, by decide⟩, k _ (by omega) (by omega)⟩
    rintro σ' H3 ⟨rfl, rfl⟩
    refine ⟨_, rfl, _, _, rfl, rfl, ⟨by decide, by decide⟩, _, _, rfl, rfl, .inr ⟨by decide, by decide⟩, _, _, rfl, rfl, ⟨by decide, by decide, by decide, by decide⟩, _, _, rfl, rfl, _, _, rfl, rfl, (by show (0 : Int) < 10 ^ 9 + 1; decide), k _ (Int.emod_nonneg _ (by decide)) ?_⟩
    show _ % (10 ^ Int.toNat 9 + 1) ≤ 1000000000
    rw [show (10 : Int) ^ Int.toNat 9 + 1 = 1000000001 by decide]
    omega
def spTimeL : Sp := fun vs H Q _ => ∃ t : Int, vs = [.int t] ∧ 0 ≤ t ∧ t ≤ 1000000000 ∧ Q (.str (timeT t)) H
theorem ok_law_time_text {P : Program} {w : World} {K : PySem.W.Frag} {mg : Str → Option Value} {base : Heap} {A : Adr} (T : Txt K mg A) : FnOk P w K mg base (CXE P w) 1 A.f_law_time_text A.d_law_time_text ["_law_ticks_here"] (spTimeL) := by
  refine T.F_law_time_text.okN sc_law_time_text (fun vs H Q E h => ?_) (fun cdv Ar outer s H vs Q E hr h => ?_)
  · obtain ⟨t, rfl, h0, h1, k⟩ := h
    rfl
  · obtain ⟨t, rfl, h0, h1, k⟩ := h
    refine ⟨_, (pss_cons (ps_if (pt_cmpR op_eq (pe_op op_mod (pv 0) pe_int) pe_int (nomark _)) (pss_one (ps_ret (pe_callTy call_str_int (by rfl) T.b_str boot_strT (pa_cons (pe_op op_fdivL (pv 0) pe_int) pa_nil)))) pss_nil)
      (pss_one (ps_ret (pe_op op_add_str (pe_op op_add_str (pe_callTy call_str_int (by rfl) T.b_str boot_strT (pa_cons (pe_op op_fdivL (pv 0) pe_int) pa_nil)) pe_str) (pe_bmK K PySem.F.plainAttrs_str PySem.F.slot_str_rstrip PySem.F.type_str_rstrip mt_rstripC (pe_bmK K PySem.F.plainAttrs_str PySem.F.slot_str_zfill PySem.F.type_str_zfill mt_zfill (pe_callTy call_str_int (by rfl) T.b_str boot_strT (pa_cons (pe_op op_mod (pv 0) pe_int) pa_nil)) (pa_cons pe_int pa_nil)) (pa_cons pe_str pa_nil)))))), ?_⟩
    have hp := plc (r := t % 1000) (by omega) (by omega)
    have hl := sec_len (n := t / 1000) (by omega) (by omega)
    refine seq_cut (fun σ' H' => σ' = [some (.int t)] ∧ H' = H ∧ t % 1000 ≠ 0) (fun N hN => ?_) ?_
    · refine ⟨_, rfl, _, _, rfl, rfl, (by show (0 : Int) < 1000; decide), rfl, _, rfl, ?_⟩
      refine ite2 (fun c => ?_) (fun c => hN _ _ ⟨rfl, rfl, fun z => c (decide_eq_true (congrArg V.int z))⟩)
      have c : t % 1000 = 0 := V.int.inj (of_decide_eq_true c)
      refine ⟨_, rfl, _, _, rfl, rfl, ⟨by decide, by decide⟩, _, rfl, log20 (by omega), ?_⟩
      have e : timeT t = secT (t / 1000) := by
        unfold timeT
        rw [if_pos (by rw [c]; decide +kernel)]
      rw [e] at k
      exact k
    rintro σ' H1 ⟨rfl, rfl, c⟩
    have e : timeT t = secT (t / 1000) ++ Str.ofString "." ++ plcT (t % 1000) := by
      unfold timeT
      rw [if_neg (fun z => c ((hp.nil).mp (by rw [z]; exact cs_empty)))]
    rw [e] at k
    have l1 : (secT (t / 1000) ++ Str.ofString ".").length ≤ 11 := by
      rw [← cs_len, cs_app, List.length_append, cs_len]
      show (secT (t / 1000)).length + 1 ≤ 11
      omega
    refine ⟨_, rfl, _, _, rfl, rfl, ⟨by decide, by decide⟩, _, rfl, log20 (by omega), _, _, rfl, rfl, le_line (by show (secT (t / 1000)).length + 1 ≤ 1000; omega), _, rfl, _, _, rfl, rfl, (by show (0 : Int) < 1000; decide), _, rfl, log20 (by omega), rfl, _, _, rfl, rfl, rfl, rfl, _, _, rfl, rfl, ?_, _, _, rfl, rfl, ?_, k⟩
    · exact Nat.le_trans (plc_ok (r := t % 1000) (by omega) (by omega)).2.2 (by decide)
    · have := hp.len
      rw [cs_len] at this
      exact le_line (by show (secT (t / 1000) ++ Str.ofString ".").length + (plcT (t % 1000)).length ≤ 1000; omega)
def spRefused (K : PySem.W.Frag) : Sp := fun vs H Q _ => ∃ x, vs = [x] ∧ NoRowV K H x ∧ ∀ H', Same H H' → Q (.bl true) H'
theorem ok_law_refused {P : Program} {w : World} {K : PySem.W.Frag} {mg : Str → Option Value} {base : Heap} {A : Adr} (T : Txt K mg A) : FnOk P w K mg base (CXE P w) 9 A.f_law_refused A.d_law_refused ["_law_thing_here"] (spRefused K) := by
  have G_row_of := okX_row_of (P := P) (w := w) (base := base) T
  refine T.F_law_refused.okN sc_law_refused (fun vs H Q E h => ?_) (fun cdv Ar outer s H vs Q E hr h => ?_)
  · obtain ⟨x, rfl, hx, k⟩ := h
    rfl
  · obtain ⟨x, rfl, hx, k⟩ := h
    refine ⟨_, (pss_cons (ps_set (i := 1) sc_law_refused.nd rfl (Or.inl rfl) pe_non)
      (pss_cons (ps_try (i := 2) K rfl rfl rfl (pb_expr (px_call rfl G_row_of (hr.mono (by decide)) (by rfl) T.m_row_of T.F_row_of.kp T.bb_row_of .nil (fun _ => (pa_cons (pv 0) pa_nil)))) (by rfl) T.c_LampError sc_law_refused.nd rfl rfl (fun _ => (pss_one (ps_set (i := 1) sc_law_refused.nd rfl (Or.inl rfl) (pv 2)))))
      (pss_cons (ps_if (PW.pt (pw_or (pt_not (pt_val (pe_callB (call_isx K) (by rfl) T.b_isinstance boot_isinstance (pa_cons (pv 1) (pa_cons (pe_glob (v := V.ref _) (by rfl) T.c_NoRow rfl) pa_nil))))) (pw_or (pt_not (pt_val (pe_callB (call_isx K) (by rfl) T.b_isinstance boot_isinstance (pa_cons (pv 1) (pa_cons (pe_ty (by rfl) T.b_ValueError boot_ValueError) pa_nil))))) (pw_or1 (pt_val (pe_callB (call_isx K) (by rfl) T.b_isinstance boot_isinstance (pa_cons (pv 1) (pa_cons (pe_glob (v := V.ref _) (by rfl) T.c_Late rfl) pa_nil)))))))) (pss_one (ps_ret pe_bl)) pss_nil)
      (pss_cons (ps_if (PW.pt (pw_or (pt_val (pe_callB (call_isx K) (by rfl) T.b_isinstance boot_isinstance (pa_cons (pv 1) (pa_cons (pe_glob (v := V.ref _) (by rfl) T.c_NoText rfl) pa_nil)))) (pw_or (pt_val (pe_callB (call_isx K) (by rfl) T.b_isinstance boot_isinstance (pa_cons (pv 1) (pa_cons (pe_glob (v := V.ref _) (by rfl) T.c_NoTime rfl) pa_nil)))) (pw_or1 (pt_val (pe_callB (call_isx K) (by rfl) T.b_isinstance boot_isinstance (pa_cons (pv 1) (pa_cons (pe_glob (v := V.ref _) (by rfl) T.c_NoCue rfl) pa_nil)))))))) (pss_one (ps_ret pe_bl)) pss_nil)
      (pss_one (ps_ret (pe_and (pe_not (pe_callB (call_isx K) (by rfl) T.b_isinstance boot_isinstance (pa_cons (pv 1) (pa_cons (pe_glob (v := V.ref _) (by rfl) T.c_NoName rfl) pa_nil)))) (pe_and (pe_not (pe_callB (call_isx K) (by rfl) T.b_isinstance boot_isinstance (pa_cons (pv 1) (pa_cons (pe_glob (v := V.ref _) (by rfl) T.c_NoSlot rfl) pa_nil)))) (pe_one (pe_not (pe_callB (call_isx K) (by rfl) T.b_isinstance boot_isinstance (pa_cons (pv 1) (pa_cons (pe_glob (v := V.ref _) (by rfl) T.c_NoWorth rfl) pa_nil))))))))))))), ?_⟩
    refine seq_cut (fun σ' H' => σ' = [some x, some .non, none] ∧ H' = H) (fun N hN => hN _ _ ⟨rfl, rfl⟩) ?_
    rintro σ' H0 ⟨rfl, rfl⟩
    refine seq_cut (fun σ' H' => ∃ ea, σ' = [some x, some (.ref ea), none] ∧ Same H0 H' ∧ H' ea = some (excAt ea (.ref A.C_NoRow) none)) (fun N hN => ?_) ?_
    · exact ⟨_, rfl, x, rfl, hx, fun G sG => ⟨T.xm_NoRow, fun ea hea => ⟨_, rfl, hN _ _ ⟨ea, rfl, sG.trans (Same.new hea), upd_same⟩⟩⟩⟩
    rintro σ' H1 ⟨ea, rfl, s1, fe⟩
    refine seq_cut (fun σ' H' => σ' = [some x, some (.ref ea), none] ∧ H' = H1) (fun N hN => ?_) ?_
    · refine ⟨_, rfl, _, _, _, _, _, rfl, fe, T.xc_NoRow, rfl, (fun _ z => z), T.xk_NoRow_NoRow, _, rfl, iteF ?_⟩
      refine ⟨_, rfl, _, _, _, _, _, rfl, fe, T.xc_NoRow, rfl, (fun _ z => z), T.xv_NoRow, _, rfl, iteF ?_⟩
      exact ⟨_, rfl, _, _, _, _, _, rfl, fe, T.xc_NoRow, rfl, (fun _ z => z), T.xk_NoRow_Late, _, rfl, iteF (hN _ _ ⟨rfl, rfl⟩)⟩
    rintro σ' H2 ⟨rfl, rfl⟩
    refine seq_cut (fun σ' H' => σ' = [some x, some (.ref ea), none] ∧ H' = H2) (fun N hN => ?_) ?_
    · refine ⟨_, rfl, _, _, _, _, _, rfl, fe, T.xc_NoRow, rfl, (fun _ z => z), T.xk_NoRow_NoText, _, rfl, iteF ?_⟩
      refine ⟨_, rfl, _, _, _, _, _, rfl, fe, T.xc_NoRow, rfl, (fun _ z => z), T.xk_NoRow_NoTime, _, rfl, iteF ?_⟩
      exact ⟨_, rfl, _, _, _, _, _, rfl, fe, T.xc_NoRow, rfl, (fun _ z => z), T.xk_NoRow_NoCue, _, rfl, iteF (hN _ _ ⟨rfl, rfl⟩)⟩
    rintro σ' H3 ⟨rfl, rfl⟩
    refine ⟨_, rfl, _, _, _, _, _, rfl, fe, T.xc_NoRow, rfl, (fun _ z => z), T.xk_NoRow_NoName, _, rfl, _, rfl, iteT ?_⟩
    refine ⟨_, rfl, _, _, _, _, _, rfl, fe, T.xc_NoRow, rfl, (fun _ z => z), T.xk_NoRow_NoSlot, _, rfl, _, rfl, iteT ?_⟩
    exact ⟨_, rfl, _, _, _, _, _, rfl, fe, T.xc_NoRow, rfl, (fun _ z => z), T.xk_NoRow_NoWorth, _, rfl, k _ s1⟩
theorem callOr {X : Cx} {f : Value} {r1 r2 : List V → Hp → VK → Prop} (h1 : CallR X f r1) (h2 : CallR X f r2) : CallR X f (fun xs H Q => r1 xs H Q ∨ r2 xs H Q) := fun pins s σ H xs us Q I r h => h.elim (h1 pins s σ H xs us Q I r) (h2 pins s σ H xs us Q I r)
theorem call_str_str {X : Cx} : CallR X (.type "str") (fun xs H Q => ∃ z : Str, xs = [.str z] ∧ Q (.str z) H) := by
  intro pins s σ H xs us Q I r h
  obtain ⟨z, rfl, q⟩ := h
  obtain ⟨u, rfl, t, rfl⟩ := vals1 r
  exact PySem.P.str_of_str ⟨.str _, H, I, ⟨_, rfl⟩, q⟩
abbrev kTime : Str := Str.ofString "time"
abbrev kName : Str := Str.ofString "name"
abbrev kSide : Str := Str.ofString "side"
abbrev kNumber : Str := Str.ofString "number"
abbrev kWorth : Str := Str.ofString "worth"
abbrev kLevel : Str := Str.ofString "level"
inductive Kin : Str → Str → Prop
  | time : Kin kTime timT
  | lamp : Kin kName lamT
  | name : Kin kName namT
  | side : Kin kSide sidT
  | number : Kin kNumber numT
  | worth : Kin kWorth worT
  | level : Kin kLevel levT
theorem kin_ne : kTime ≠ kName ∧ kTime ≠ kSide ∧ kTime ≠ kNumber ∧ kTime ≠ kWorth ∧ kTime ≠ kLevel ∧ kName ≠ kSide ∧ kName ≠ kNumber ∧ kName ≠ kWorth ∧ kName ≠ kLevel ∧ kSide ≠ kNumber ∧ kSide ≠ kWorth ∧ kSide ≠ kLevel ∧ kNumber ≠ kWorth ∧ kNumber ≠ kLevel ∧ kWorth ≠ kLevel := by decide +kernel
structure Tx (fk w : Str) (v : V) : Prop where
  th : Th fk w v
  plain : (∃ n : Int, v = .int n) ∨ ∃ z : Str, v = .str z
  len : w.length ≤ 20
  free : (32 : Nat) ∉ cs w
structure Tv (kd : Str) (v : V) : Prop where
  name : kd = kName → ∃ z : Str, v = .str z ∧ lampB z = true
  side : kd = kSide → ∃ z : Str, v = .str z ∧ .str z ∈ sidesV
  number : kd = kNumber → ∃ n : Int, v = .int n ∧ 1 ≤ n ∧ n ≤ 1000000000
  worth : kd = kWorth → ∃ n : Int, v = .int n ∧ 0 ≤ n ∧ n ≤ 1000000000
  level : kd = kLevel → ∃ n : Int, v = .int n ∧ 0 ≤ n ∧ n ≤ 1000
theorem sec_free {n : Int} (h : 0 ≤ n) : (32 : Nat) ∉ cs (secT n) := fun z => by
  have := List.all_eq_true.mp (sec_ok h).1.1 _ z
  revert this; decide
theorem sec_len20 {n : Int} (h0 : 0 ≤ n) (h1 : n < 1000000000000) : (secT n).length ≤ 20 := by
  obtain ⟨m, rfl⟩ := Int.eq_ofNat_of_zero_le h0
  rw [← cs_len]
  unfold secT
  rw [num_cs, List.length_map]
  exact PyProof.Rows.digits10_le (by decide) (by omega)
theorem log40 {n : Nat} (h : n < 1000000000000) : n.log2 < 1920 := by
  by_cases h0 : n = 0
  · subst h0; decide
  · exact (Nat.log2_lt h0).mpr (Nat.lt_trans h (Nat.lt_of_lt_of_le (show 1000000000000 < 2 ^ 40 by decide) (Nat.pow_le_pow_right (by decide) (by decide))))
theorem kin_time {kd fk : Str} (h : Kin kd fk) (e : kd = kTime) : fk = timT := by
  obtain ⟨n1, n2, n3, n4, n5, n6, n7, n8, n9, n10, n11, n12, n13, n14, n15⟩ := kin_ne
  cases h with
  | time => rfl
  | lamp => exact absurd e.symm n1
  | name => exact absurd e.symm n1
  | side => exact absurd e.symm n2
  | number => exact absurd e.symm n3
  | worth => exact absurd e.symm n4
  | level => exact absurd e.symm n5
theorem tx_time {n : Int} (h0 : 0 ≤ n) (h1 : n ≤ 1000000000) : Tx timT (timeT n) (.int n) := by
  obtain ⟨a, b, _⟩ := time_all h0 h1
  refine ⟨.time n h0 h1, .inl ⟨n, rfl⟩, by rw [← cs_len]; omega, fun z => ?_⟩
  rcases b _ z with c | c
  · revert c; decide
  · revert c; decide
theorem lamp_free {z : Str} (h : lampB z = true) : (32 : Nat) ∉ cs z ∧ z.length ≤ 8 := by
  unfold lampB at h
  simp only [Bool.and_eq_true, decide_eq_true_eq] at h
  refine ⟨fun x => ?_, by omega⟩
  have := List.all_eq_true.mp h.2.2 _ x
  revert this; decide
theorem side_facts : ∀ x ∈ sidesV, ∃ z : Str, x = .str z ∧ inV (.str z) sidesV = true ∧ z.length ≤ 20 ∧ (32 : Nat) ∉ cs z := by
  intro x hx
  rcases List.mem_cons.mp hx with rfl | hx
  · exact ⟨_, rfl, by decide +kernel, by decide +kernel, by decide +kernel⟩
  rcases List.mem_cons.mp hx with rfl | hx
  · exact ⟨_, rfl, by decide +kernel, by decide +kernel, by decide +kernel⟩
  rcases List.mem_cons.mp hx with rfl | hx
  · exact ⟨_, rfl, by decide +kernel, by decide +kernel, by decide +kernel⟩
  rcases List.mem_cons.mp hx with rfl | hx
  · exact ⟨_, rfl, by decide +kernel, by decide +kernel, by decide +kernel⟩
  rcases List.mem_cons.mp hx with rfl | hx
  · exact ⟨_, rfl, by decide +kernel, by decide +kernel, by decide +kernel⟩
  rcases List.mem_cons.mp hx with rfl | hx
  · exact ⟨_, rfl, by decide +kernel, by decide +kernel, by decide +kernel⟩
  · cases hx
theorem kinds_name : (lamT ≠ numT ∧ lamT ≠ worT ∧ lamT ≠ levT ∧ lamT ≠ timT ∧ lamT ≠ sidT) ∧ (namT ≠ numT ∧ namT ≠ worT ∧ namT ≠ levT ∧ namT ≠ timT ∧ namT ≠ sidT) := by decide +kernel
inductive Told (fk : Str) : V → Prop
  | txt (z : Str) (h : Tx fk z (.str z)) : Told fk (.str z)
  | num (n : Int) (h0 : 0 ≤ n) (h1 : n < 1000000000000) (h : Tx fk (secT n) (.int n)) : Told fk (.int n)
theorem told {kd fk : Str} {v : V} (hk : Kin kd fk) (hv : Tv kd v) (ht : kd ≠ kTime) : Told fk v := by
  have int : ∀ {n : Int}, 0 ≤ n → n ≤ 1000000000 → Th fk (secT n) (.int n) → Told fk (.int n) := fun a b c => .num _ a (by omega) ⟨c, .inl ⟨_, rfl⟩, sec_len20 a (by omega), sec_free a⟩
  cases hk with
  | time => exact absurd rfl ht
  | lamp =>
    obtain ⟨z, rfl, hz⟩ := hv.name rfl
    obtain ⟨a, b⟩ := lamp_free hz
    exact .txt z ⟨.name _ _ kinds_name.1 hz, .inr ⟨_, rfl⟩, by omega, a⟩
  | name =>
    obtain ⟨z, rfl, hz⟩ := hv.name rfl
    obtain ⟨a, b⟩ := lamp_free hz
    exact .txt z ⟨.name _ _ kinds_name.2 hz, .inr ⟨_, rfl⟩, by omega, a⟩
  | side =>
    obtain ⟨z, rfl, hz⟩ := hv.side rfl
    obtain ⟨z', e, a, b, c⟩ := side_facts _ hz
    cases e
    exact .txt z ⟨.side _ a, .inr ⟨_, rfl⟩, b, c⟩
  | number =>
    obtain ⟨n, rfl, a, b⟩ := hv.number rfl
    have w := whole_sec (n := n) (most := 1000000000) (by omega) b
    refine int (by omega) b ?_
    rw [← w]
    refine .num _ fun z => ?_
    have := (sec_ok (n := n) (by omega)).2.1
    rw [z, cs_zero] at this
    have e : ((PySem.NumText.digitsVal [48] : Nat) : Int) = 0 := by decide +kernel
    omega
  | worth =>
    obtain ⟨n, rfl, a, b⟩ := hv.worth rfl
    have w := whole_sec (n := n) (most := 1000000000) a b
    refine int a b ?_
    rw [← w]
    exact .worth _
  | level =>
    obtain ⟨n, rfl, a, b⟩ := hv.level rfl
    have w := whole_sec (n := n) (most := 1000) a b
    refine int a (by omega) ?_
    rw [← w]
    exact .level _
def spThingL : Sp := fun vs H Q _ => ∃ (kd fk : Str) (m : Int), vs = [.str kd, .int m] ∧ Kin kd fk ∧ 0 ≤ m ∧ ∀ p v w H', Same H H' → H' p = some (.tup [v, .str w]) → Tx fk w v → Q (.ref p) H'
theorem ok_law_thing {P : Program} {w : World} {K : PySem.W.Frag} {mg : Str → Option Value} {base : Heap} {A : Adr} (T : Txt K mg A) : FnOk P w K mg base (CXE P w) 2 A.f_law_thing A.d_law_thing ["_law_kind", "_law_number_here"] (spThingL) := by
  have G_law_name := ok_law_name (P := P) (w := w) (base := base) T
  have G_law_ticks := ok_law_ticks (P := P) (w := w) (base := base) T
  have G_law_time_text := ok_law_time_text (P := P) (w := w) (base := base) T
  refine T.F_law_thing.okN sc_law_thing (fun vs H Q E h => ?_) (fun cdv Ar outer s H vs Q E hr h => ?_)
  · obtain ⟨kd, fk, m, rfl, hk, h0, k⟩ := h
    rfl
  · obtain ⟨kd, fk, m, rfl, hk, h0, k⟩ := h
    refine ⟨_, (pss_cons (ps_if (pt_cmpR op_eq (pv 0) pe_str (nomark _)) (pss_cons (ps_set (i := 2) sc_law_thing.nd rfl (Or.inl rfl) (pe_call G_law_ticks (hr.mono (by decide)) (by rfl) T.m_law_ticks T.F_law_ticks.kp T.bb_law_ticks .nil passE0 (pa_cons (pv 1) pa_nil)))
      (pss_one (ps_ret (pe_tupS (pa_cons (pv 2) (pa_cons (pe_call G_law_time_text (hr.mono (by decide)) (by rfl) T.m_law_time_text T.F_law_time_text.kp T.bb_law_time_text .nil passE0 (pa_cons (pv 2) pa_nil)) pa_nil)))))) pss_nil)
      (pss_cons (ps_set (i := 3) sc_law_thing.nd rfl (Or.inl rfl) (pe_call G_law_name (hr.mono (by decide)) (by rfl) T.m_law_name T.F_law_name.kp T.bb_law_name .nil passE0 (pa_cons (pv 1) pa_nil)))
      (pss_cons (ps_if (pt_cmpR op_eq (pv 0) pe_str (nomark _)) (pss_one (ps_set (i := 3) sc_law_thing.nd rfl (Or.inl rfl) (pe_ix ix_lst (pe_lstS (pa_cons pe_str (pa_cons pe_str (pa_cons pe_str (pa_cons pe_str (pa_cons pe_str (pa_cons pe_str pa_nil))))))) (pe_op op_mod (pv 1) pe_int) (fun _ _ => rfl)))) pss_nil)
      (pss_cons (ps_if (pt_cmpR op_eq (pv 0) pe_str (nomark _)) (pss_one (ps_set (i := 3) sc_law_thing.nd rfl (Or.inl rfl) (pe_op op_add pe_int (pe_menu (pa_cons (pe_op op_mod (pv 1) pe_int) (pa_cons (pe_op op_mod (pe_op op_mul (pv 1) pe_int) (pe_op op_powS pe_int pe_int)) (pa_cons (pe_op op_sub (pe_op op_powS pe_int pe_int) pe_int) pa_nil))) (pe_op op_mod (pv 1) pe_int) (fun _ _ => rfl))))) pss_nil)
      (pss_cons (ps_if (pt_cmpR op_eq (pv 0) pe_str (nomark _)) (pss_one (ps_set (i := 3) sc_law_thing.nd rfl (Or.inl rfl) (pe_menu (pa_cons (pe_op op_mod (pv 1) pe_int) (pa_cons (pe_op op_mod (pe_op op_mul (pv 1) pe_int) (pe_op op_add (pe_op op_powS pe_int pe_int) pe_int)) (pa_cons (pe_op op_powS pe_int pe_int) pa_nil))) (pe_op op_mod (pv 1) pe_int) (fun _ _ => rfl)))) pss_nil)
      (pss_cons (ps_if (pt_cmpR op_eq (pv 0) pe_str (nomark _)) (pss_one (ps_set (i := 3) sc_law_thing.nd rfl (Or.inl rfl) (pe_menu (pa_cons (pe_op op_mod (pe_op op_fdivL (pv 1) pe_int) pe_int) (pa_cons pe_int (pa_cons pe_int (pa_cons (pe_op op_mod (pe_op op_fdivL (pv 1) pe_int) pe_int) pa_nil)))) (pe_op op_mod (pv 1) pe_int) (fun _ _ => rfl)))) pss_nil)
      (pss_one (ps_ret (pe_tupS (pa_cons (pv 3) (pa_cons (pe_callTy (callOr call_str_int call_str_str) (by rfl) T.b_str boot_strT (pa_cons (pv 3) pa_nil)) pa_nil))))))))))), ?_⟩
    obtain ⟨n1, n2, n3, n4, n5, n6, n7, n8, n9, n10, n11, n12, n13, n14, n15⟩ := kin_ne
    have ste : ∀ {a b : Str}, decide (V.str a = V.str b) = true → a = b := fun c => by have := of_decide_eq_true c; injection this
    refine seq_cut (fun σ' H' => σ' = [some (.str kd), some (.int m), none, none] ∧ H' = H ∧ kd ≠ kTime) (fun N hN => ?_) ?_
    · refine ⟨_, rfl, rfl, _, rfl, ?_⟩
      refine ite2 (fun c => ?_) (fun c => hN _ _ ⟨rfl, rfl, fun z => c (deT z)⟩)
      have ef := kin_time hk (ste c)
      refine seq_cut (fun σ' H' => ∃ t : Int, σ' = [some (.str kd), some (.int m), some (.int t), none] ∧ H' = H ∧ 0 ≤ t ∧ t ≤ 1000000000) (fun N2 hN2 => ?_) ?_
      · exact ⟨_, rfl, m, rfl, h0, fun t t0 t1 => hN2 _ _ ⟨t, rfl, rfl, t0, t1⟩⟩
      rintro σ' H1 ⟨t, rfl, rfl, t0, t1⟩
      exact ⟨_, rfl, _, rfl, t, rfl, t0, t1, (by show 2 ≤ 1000; decide), fun p hp => k p _ _ _ (Same.new hp) upd_same (by rw [ef]; exact tx_time t0 t1)⟩
    rintro σ' H1 ⟨rfl, rfl, hnt⟩
    refine seq_cut (fun σ' H' => ∃ z : Str, σ' = [some (.str kd), some (.int m), none, some (.str z)] ∧ H' = H1 ∧ lampB z = true) (fun N hN => ?_) ?_
    · exact ⟨_, rfl, m, rfl, h0, fun z hz => hN _ _ ⟨z, rfl, rfl, hz⟩⟩
    rintro σ' H2 ⟨z, rfl, rfl, hz⟩
    refine seq_cut (fun σ' H' => ∃ v, σ' = [some (.str kd), some (.int m), none, some v] ∧ Same H2 H' ∧ (kd = kName → ∃ z : Str, v = .str z ∧ lampB z = true) ∧ (kd = kSide → ∃ z : Str, v = .str z ∧ .str z ∈ sidesV)) (fun N hN => ?_) ?_
    · refine ⟨_, rfl, rfl, _, rfl, ?_⟩
      refine ite2 (fun c => ?_) (fun c => hN _ _ ⟨_, rfl, (fun _ _ z => z), fun _ => ⟨z, rfl, hz⟩, fun e => absurd (deT e) c⟩)
      refine ⟨(by show 6 ≤ 1000; decide), fun M hM => ?_⟩
      have hl : (m % 6).toNat < sidesV.length := by show (m % 6).toNat < 6; omega
      have hv := atI_nat (xs := sidesV) (j := (m % 6).toNat) (List.getElem?_eq_getElem hl)
      rw [Int.toNat_of_nonneg (by omega)] at hv
      have hm := List.getElem_mem hl
      generalize sidesV[(m % 6).toNat] = y at hv hm
      obtain ⟨z, rfl, _⟩ := side_facts _ hm
      refine ⟨_, rfl, _, _, rfl, rfl, (by show (0 : Int) < 6; decide), M, _, _, _, rfl, rfl, upd_same, hv, hN _ _ ⟨_, rfl, Same.new hM, fun e => absurd ((ste c).symm.trans e) n6.symm, fun _ => ⟨z, rfl, hm⟩⟩⟩
    rintro σ' H3 ⟨v, rfl, s3, hv1, hv2⟩
    refine seq_cut (fun σ' H' => ∃ v, σ' = [some (.str kd), some (.int m), none, some v] ∧ H' = H3 ∧ (kd = kName → ∃ z : Str, v = .str z ∧ lampB z = true) ∧ (kd = kSide → ∃ z : Str, v = .str z ∧ .str z ∈ sidesV) ∧ (kd = kNumber → ∃ n : Int, v = .int n ∧ 1 ≤ n ∧ n ≤ 1000000000)) (fun N hN => ?_) ?_
    · refine ⟨_, rfl, rfl, _, rfl, ?_⟩
      refine ite2 (fun c => ?_) (fun c => hN _ _ ⟨_, rfl, rfl, hv1, hv2, fun e => absurd (deT e) c⟩)
      refine ⟨_, rfl, _, _, rfl, rfl, (by show (0 : Int) < 20; decide), _, rfl, _, _, rfl, rfl, .inr ⟨by decide, by decide⟩, _, _, rfl, rfl, ⟨by decide, by decide, by decide, by decide⟩, _, _, rfl, rfl, (by show (0 : Int) < 10 ^ 9; decide), _, _, rfl, rfl, ⟨by decide, by decide, by decide, by decide⟩, _, _, rfl, rfl, ?_⟩
      have p9 : (10 : Int) ^ Int.toNat 9 = 1000000000 := by decide
      simp only [p9]
      have mm := menu_all (P := fun x => 0 ≤ x ∧ x ≤ 999999999) (ns := [m % 20, m * 7 % 1000000000, 1000000000 - 1]) (k := m % 3) (by
        intro x hx
        rcases List.mem_cons.mp hx with rfl | hx
        · omega
        rcases List.mem_cons.mp hx with rfl | hx
        · omega
        rcases List.mem_cons.mp hx with rfl | hx
        · omega
        cases hx) (by omega) (by show _ < ((3 : Nat) : Int); omega)
      exact ⟨(by show 3 ≤ 1000; decide), _, rfl, _, _, rfl, rfl, (by show (0 : Int) < 3; decide), _, _, rfl, rfl, by omega, (by show m % 3 < 3; omega), (by show (3 : Int) < 1000; decide), _, _, rfl, rfl, hN _ _ ⟨_, rfl, rfl, fun e => absurd ((ste c).symm.trans e) n7.symm, fun e => absurd ((ste c).symm.trans e) n10.symm, fun _ => ⟨_, rfl, by omega, by omega⟩⟩⟩
    rintro σ' H4 ⟨v, rfl, rfl, hv1, hv2, hv3⟩
    refine seq_cut (fun σ' H' => ∃ v, σ' = [some (.str kd), some (.int m), none, some v] ∧ H' = H4 ∧ (kd = kName → ∃ z : Str, v = .str z ∧ lampB z = true) ∧ (kd = kSide → ∃ z : Str, v = .str z ∧ .str z ∈ sidesV) ∧ (kd = kNumber → ∃ n : Int, v = .int n ∧ 1 ≤ n ∧ n ≤ 1000000000) ∧ (kd = kWorth → ∃ n : Int, v = .int n ∧ 0 ≤ n ∧ n ≤ 1000000000)) (fun N hN => ?_) ?_
    · refine ⟨_, rfl, rfl, _, rfl, ?_⟩
      refine ite2 (fun c => ?_) (fun c => hN _ _ ⟨_, rfl, rfl, hv1, hv2, hv3, fun e => absurd (deT e) c⟩)
      refine ⟨_, rfl, _, _, rfl, rfl, (by show (0 : Int) < 2; decide), _, rfl, _, _, rfl, rfl, .inr ⟨by decide, by decide⟩, _, _, rfl, rfl, ⟨by decide, by decide, by decide, by decide⟩, _, _, rfl, rfl, _, _, rfl, rfl, (by show (0 : Int) < 10 ^ 9 + 1; decide), _, _, rfl, rfl, ⟨by decide, by decide, by decide, by decide⟩, ?_⟩
      have p9 : (10 : Int) ^ Int.toNat 9 = 1000000000 := by decide
      simp only [p9]
      have mm := menu_all (P := fun x => 0 ≤ x ∧ x ≤ 1000000000) (ns := [m % 2, m * 7 % (1000000000 + 1), 1000000000]) (k := m % 3) (by
        intro x hx
        rcases List.mem_cons.mp hx with rfl | hx
        · omega
        rcases List.mem_cons.mp hx with rfl | hx
        · omega
        rcases List.mem_cons.mp hx with rfl | hx
        · omega
        cases hx) (by omega) (by show _ < ((3 : Nat) : Int); omega)
      exact ⟨(by show 3 ≤ 1000; decide), _, rfl, _, _, rfl, rfl, (by show (0 : Int) < 3; decide), _, _, rfl, rfl, by omega, (by show m % 3 < 3; omega), (by show (3 : Int) < 1000; decide), hN _ _ ⟨_, rfl, rfl, fun e => absurd ((ste c).symm.trans e) n8.symm, fun e => absurd ((ste c).symm.trans e) n11.symm, fun e => absurd ((ste c).symm.trans e) n13.symm, fun _ => ⟨_, rfl, mm.1, mm.2⟩⟩⟩
    rintro σ' H5 ⟨v, rfl, rfl, hv1, hv2, hv3, hv4⟩
    refine seq_cut (fun σ' H' => ∃ v, σ' = [some (.str kd), some (.int m), none, some v] ∧ H' = H5 ∧ Tv kd v) (fun N hN => ?_) ?_
    · refine ⟨_, rfl, rfl, _, rfl, ?_⟩
      refine ite2 (fun c => ?_) (fun c => hN _ _ ⟨_, rfl, rfl, hv1, hv2, hv3, hv4, fun e => absurd (deT e) c⟩)
      have mm := menu_all (P := fun x => 0 ≤ x ∧ x ≤ 1000) (ns := [m / 4 % 1001, 0, 1000, m / 4 % 1001]) (k := m % 4) (by
        intro x hx
        rcases List.mem_cons.mp hx with rfl | hx
        · omega
        rcases List.mem_cons.mp hx with rfl | hx
        · omega
        rcases List.mem_cons.mp hx with rfl | hx
        · omega
        rcases List.mem_cons.mp hx with rfl | hx
        · omega
        cases hx) (by omega) (by show _ < ((4 : Nat) : Int); omega)
      exact ⟨_, rfl, _, _, rfl, rfl, ⟨by decide, by decide⟩, _, _, rfl, rfl, (by show (0 : Int) < 1001; decide), _, rfl, _, _, rfl, rfl, ⟨by decide, by decide⟩, _, _, rfl, rfl, (by show (0 : Int) < 1001; decide), (by show 4 ≤ 1000; decide), _, rfl, _, _, rfl, rfl, (by show (0 : Int) < 4; decide), _, _, rfl, rfl, by omega, (by show m % 4 < 4; omega), (by show (4 : Int) < 1000; decide), hN _ _ ⟨_, rfl, rfl, fun e => absurd ((ste c).symm.trans e) n9.symm, fun e => absurd ((ste c).symm.trans e) n12.symm, fun e => absurd ((ste c).symm.trans e) n14.symm, fun e => absurd ((ste c).symm.trans e) n15.symm, fun _ => ⟨_, rfl, mm.1, mm.2⟩⟩⟩
    rintro σ' H6 ⟨v, rfl, rfl, hv⟩
    cases told hk hv hnt with
    | txt z h => exact ⟨_, rfl, _, rfl, .inr ⟨z, rfl, (by show 2 ≤ 1000; decide), fun p hp => k p _ _ _ (s3.trans (Same.new hp)) upd_same h⟩⟩
    | num n a b h => exact ⟨_, rfl, _, rfl, .inl ⟨n, rfl, log40 (by omega), (by show 2 ≤ 1000; decide), fun p hp => k p _ _ _ (s3.trans (Same.new hp)) upd_same h⟩⟩
def look : List (Str × List Str) → Str → Option (List Str)
  | [], _ => none
  | (k, l) :: r, w => if k = w then some l else look r w
def tbl5 : List (Str × List Str) := [(Str.ofString "unblock", [kNumber]), (Str.ofString "block", [kNumber]), (Str.ofString "keep", [kNumber]), (Str.ofString "out", [kNumber]), (Str.ofString "goto", [kNumber])]
def tbl6 : List (Str × List Str) := (Str.ofString "put", [kNumber, kTime, kTime, kTime]) :: tbl5
def tbl7 : List (Str × List Str) := (Str.ofString "tell", [kNumber, kName, kSide, kWorth]) :: tbl6
def tbl8 : List (Str × List Str) := (Str.ofString "alone", [kNumber, kName, kSide, kWorth]) :: tbl7
def tbl9 : List (Str × List Str) := (Str.ofString "untell", [kNumber, kName, kSide]) :: tbl8
def tbl10 : List (Str × List Str) := (Str.ofString "fill", [kName, kName, kSide, kWorth]) :: tbl9
def tbl11 : List (Str × List Str) := (Str.ofString "move", [kName, kLevel]) :: tbl10
def tbl12 : List (Str × List Str) := (Str.ofString "down", [kLevel]) :: tbl11
def tblT : List (Str × List Str) := (Str.ofString "spare", [kName]) :: tbl12
def wordsA : List Str := [Str.ofString "go", Str.ofString "back", Str.ofString "goto", Str.ofString "stop", Str.ofString "on", Str.ofString "put", Str.ofString "out", Str.ofString "keep", Str.ofString "tell", Str.ofString "alone", Str.ofString "untell", Str.ofString "block", Str.ofString "unblock"]
def wordsB : List Str := [Str.ofString "fill", Str.ofString "move", Str.ofString "down", Str.ofString "spare"]
def wordsT : List Str := wordsA ++ wordsB
abbrev putT : Str := Str.ofString "put"
def kindsOf (w : Str) (m : Int) : List Str := (look tblT w).getD [] ++ (if w = putT ∧ m % 2 = 1 then [kTime] else [])
inductive FK : Nat → List Str → List Str → Prop
  | nil {i : Nat} : FK i [] []
  | one {i : Nat} {kd fk : Str} {ks fs : List Str} (hi : i ≠ 4) (h : Kin kd fk) (t : FK (i + 1) ks fs) : FK i (kd :: ks) (fk :: fs)
  | fol {kd fk : Str} {ks fs : List Str} (h : Kin kd fk) (t : FK 5 ks fs) : FK 4 (kd :: ks) (folT :: fk :: fs)
theorem form_other {w : Str} {m : Int} {ks : List Str} (f : List Str) (hp : w ≠ putT) (hl : (look tblT w).getD [] = ks) (hf : f ∈ formsT) (hh : f.headD blankT = w) (hk : FK 0 ks f.tail) : ∃ f ∈ formsT, f.headD blankT = w ∧ FK 0 (kindsOf w m) f.tail :=
  ⟨f, hf, hh, by unfold kindsOf; rw [hl, if_neg (fun z => hp z.1), List.append_nil]; exact hk⟩
theorem look_put : (look tblT putT).getD [] = [kNumber, kTime, kTime, kTime] := by decide +kernel
theorem form_ok : ∀ w ∈ wordsT, ∀ m : Int, ∃ f ∈ formsT, f.headD blankT = w ∧ FK 0 (kindsOf w m) f.tail := by
  intro w hw m
  simp only [wordsT, wordsA, wordsB, List.cons_append, List.nil_append, List.mem_cons, List.not_mem_nil, or_false] at hw
  rcases hw with rfl | rfl | rfl | rfl | rfl | rfl | rfl | rfl | rfl | rfl | rfl | rfl | rfl | rfl | rfl | rfl | rfl
  · exact form_other (ks := []) [Str.ofString "go"] (by decide +kernel) (by decide +kernel) (by decide +kernel) (by decide +kernel) .nil
  · exact form_other (ks := []) [Str.ofString "back"] (by decide +kernel) (by decide +kernel) (by decide +kernel) (by decide +kernel) .nil
  · exact form_other (ks := [kNumber]) [Str.ofString "goto", numT] (by decide +kernel) (by decide +kernel) (by decide +kernel) (by decide +kernel) (.one (by decide) .number .nil)
  · exact form_other (ks := []) [Str.ofString "stop"] (by decide +kernel) (by decide +kernel) (by decide +kernel) (by decide +kernel) .nil
  · exact form_other (ks := []) [Str.ofString "on"] (by decide +kernel) (by decide +kernel) (by decide +kernel) (by decide +kernel) .nil
  · by_cases c : m % 2 = 1
    · refine ⟨[putT, numT, timT, timT, timT, folT, timT], by decide +kernel, by decide +kernel, ?_⟩
      unfold kindsOf
      rw [look_put, if_pos ⟨rfl, c⟩]
      exact .one (by decide) .number (.one (by decide) .time (.one (by decide) .time (.one (by decide) .time (.fol .time .nil))))
    · refine ⟨[putT, numT, timT, timT, timT], by decide +kernel, by decide +kernel, ?_⟩
      unfold kindsOf
      rw [look_put, if_neg (fun z => c z.2), List.append_nil]
      exact .one (by decide) .number (.one (by decide) .time (.one (by decide) .time (.one (by decide) .time .nil)))
  · exact form_other (ks := [kNumber]) [Str.ofString "out", numT] (by decide +kernel) (by decide +kernel) (by decide +kernel) (by decide +kernel) (.one (by decide) .number .nil)
  · exact form_other (ks := [kNumber]) [Str.ofString "keep", numT] (by decide +kernel) (by decide +kernel) (by decide +kernel) (by decide +kernel) (.one (by decide) .number .nil)
  · exact form_other (ks := [kNumber, kName, kSide, kWorth]) [Str.ofString "tell", numT, lamT, sidT, worT] (by decide +kernel) (by decide +kernel) (by decide +kernel) (by decide +kernel) (.one (by decide) .number (.one (by decide) .lamp (.one (by decide) .side (.one (by decide) .worth .nil))))
  · exact form_other (ks := [kNumber, kName, kSide, kWorth]) [Str.ofString "alone", numT, lamT, sidT, worT] (by decide +kernel) (by decide +kernel) (by decide +kernel) (by decide +kernel) (.one (by decide) .number (.one (by decide) .lamp (.one (by decide) .side (.one (by decide) .worth .nil))))
  · exact form_other (ks := [kNumber, kName, kSide]) [Str.ofString "untell", numT, lamT, sidT] (by decide +kernel) (by decide +kernel) (by decide +kernel) (by decide +kernel) (.one (by decide) .number (.one (by decide) .lamp (.one (by decide) .side .nil)))
  · exact form_other (ks := [kNumber]) [Str.ofString "block", numT] (by decide +kernel) (by decide +kernel) (by decide +kernel) (by decide +kernel) (.one (by decide) .number .nil)
  · exact form_other (ks := [kNumber]) [Str.ofString "unblock", numT] (by decide +kernel) (by decide +kernel) (by decide +kernel) (by decide +kernel) (.one (by decide) .number .nil)
  · exact form_other (ks := [kName, kName, kSide, kWorth]) [Str.ofString "fill", namT, lamT, sidT, worT] (by decide +kernel) (by decide +kernel) (by decide +kernel) (by decide +kernel) (.one (by decide) .name (.one (by decide) .lamp (.one (by decide) .side (.one (by decide) .worth .nil))))
  · exact form_other (ks := [kName, kLevel]) [Str.ofString "move", namT, levT] (by decide +kernel) (by decide +kernel) (by decide +kernel) (by decide +kernel) (.one (by decide) .name (.one (by decide) .level .nil))
  · exact form_other (ks := [kLevel]) [Str.ofString "down", levT] (by decide +kernel) (by decide +kernel) (by decide +kernel) (by decide +kernel) (.one (by decide) .level .nil)
  · exact form_other (ks := [kName]) [Str.ofString "spare", lamT] (by decide +kernel) (by decide +kernel) (by decide +kernel) (by decide +kernel) (.one (by decide) .lamp .nil)
theorem kinds_few (w : Str) (hw : w ∈ wordsT) (m : Int) : (kindsOf w m).length ≤ 5 := by
  have l5 : ∀ v ∈ wordsT, ((look tblT v).getD []).length ≤ 4 := by decide +kernel
  have := l5 w hw
  unfold kindsOf
  rw [List.length_append]
  split
  · simp only [List.length_cons, List.length_nil]; omega
  · simp only [List.length_nil]; omega
def Tab (t : List (Str × List Str)) (kvs : List (Key × V)) (H : Hp) : Prop := kvs.length ≤ t.length ∧ ∀ w : Str, (look t w = none → valV kvs (.inr w) = none) ∧ ∀ l, look t w = some l → ∃ L, valV kvs (.inr w) = some (.ref L) ∧ H L = some (.lst (l.map V.str))
theorem Tab.nil {H : Hp} : Tab [] [] H := ⟨Nat.le_refl _, fun w => ⟨fun _ => rfl, fun l h => by cases h⟩⟩
theorem Tab.put {t : List (Str × List Str)} {kvs : List (Key × V)} {H : Hp} {l : List Str} {L : Addr} (h : Tab t kvs H) (k : Str) (hL : H L = some (.lst (l.map V.str))) : Tab ((k, l) :: t) (putK kvs (.inr k) (.ref L)) H := by
  refine ⟨?_, fun w => ⟨fun e => ?_, fun l' e => ?_⟩⟩
  · have h1 := length_putK kvs (.inr k) (V.ref L)
    have h2 := h.1
    rw [List.length_cons]; omega
  · unfold look at e
    by_cases c : k = w
    · rw [if_pos c] at e; cases e
    · rw [if_neg c] at e
      rw [valV_put, if_neg (fun z => c (Sum.inr.inj z).symm)]
      exact (h.2 w).1 e
  · unfold look at e
    by_cases c : k = w
    · rw [if_pos c] at e
      cases e
      exact ⟨L, by rw [valV_put, if_pos (by rw [c])], hL⟩
    · rw [if_neg c] at e
      rw [valV_put, if_neg (fun z => c (Sum.inr.inj z).symm)]
      exact (h.2 w).2 l' e
theorem Tab.keep {t : List (Str × List Str)} {kvs : List (Key × V)} {H H' : Hp} (h : Tab t kvs H) (hs : ∀ L xs, H L = some (.lst xs) → H' L = some (.lst xs)) : Tab t kvs H' :=
  ⟨h.1, fun w => ⟨(h.2 w).1, fun l e => let ⟨L, e1, e2⟩ := (h.2 w).2 l e; ⟨L, e1, hs _ _ e2⟩⟩⟩
theorem form_put {H0 H : Hp} {D L : Addr} {kvs : List (Key × V)} {t : List (Str × List Str)} (k : Str) (l : List Str) (nD : H0 D = none) (hD : H D = some (.dK kvs)) (ht : Tab t kvs H) (hl : t.length ≤ 100) (s : Same H0 H) (hL : H L = none) :
    (upd H L (.lst (l.map V.str))) D = some (.dK kvs) ∧ kvs.length < sizeLine ∧ (upd (upd H L (.lst (l.map V.str))) D (.dK (putK kvs (.inr k) (.ref L)))) D = some (.dK (putK kvs (.inr k) (.ref L))) ∧
      Tab ((k, l) :: t) (putK kvs (.inr k) (.ref L)) (upd (upd H L (.lst (l.map V.str))) D (.dK (putK kvs (.inr k) (.ref L)))) ∧ Same H0 (upd (upd H L (.lst (l.map V.str))) D (.dK (putK kvs (.inr k) (.ref L)))) := by
  have ne : D ≠ L := ne_of_none hD hL
  have s1 := Same.new (o := HO.lst (l.map V.str)) hL
  refine ⟨s1 _ _ hD, small1000 (by have := ht.1; omega), upd_same, (ht.keep fun L' xs e => ?_).put k (by rw [upd_ne ne.symm, upd_same]), (s.trans s1).upd nD⟩
  rw [upd_ne (fun z => by rw [z, hD] at e; cases e)]
  exact s1 _ _ e
def FormAt (w : Str) (m : Int) (H0 : Hp) (t : List (Str × List Str)) (σ : St) (H : Hp) : Prop := ∃ D kvs, σ = [some (.str w), some (.int m), some (.ref D), none] ∧ H0 D = none ∧ H D = some (.dK kvs) ∧ Tab t kvs H ∧ Same H0 H
def formE : Expr := match (defBody s_law_form).getD 0 (.Pass ⟨0, 0, 0, 0⟩) with | .Assign _ e _ => e | _ => .List [] ⟨0, 0, 0, 0⟩
def formR : List Stmt := (defBody s_law_form).tail
abbrev tN1 : TE := tLstS (tCons (tC (.str kNumber)) tNil)
theorem form_L : ∃ k1 k2 k3 k4 k5 v1 v2 v3 v4 v5 p, formE = .Dict [some k1, some k2, some k3, some k4, some k5] [v1, v2, v3, v4, v5] p ∧ (∀ X, PE X k1 (tC (.str (Str.ofString "goto")))) ∧ (∀ X, PE X v1 tN1) ∧ (∀ X, PE X k2 (tC (.str (Str.ofString "out")))) ∧ (∀ X, PE X v2 tN1) ∧ (∀ X, PE X k3 (tC (.str (Str.ofString "keep")))) ∧ (∀ X, PE X v3 tN1) ∧ (∀ X, PE X k4 (tC (.str (Str.ofString "block")))) ∧ (∀ X, PE X v4 tN1) ∧ (∀ X, PE X k5 (tC (.str (Str.ofString "unblock")))) ∧ (∀ X, PE X v5 tN1) := ⟨_, _, _, _, _, _, _, _, _, _, _, rfl, fun _ => pe_str, fun _ => pe_lstS (pa_cons pe_str pa_nil), fun _ => pe_str, fun _ => pe_lstS (pa_cons pe_str pa_nil), fun _ => pe_str, fun _ => pe_lstS (pa_cons pe_str pa_nil), fun _ => pe_str, fun _ => pe_lstS (pa_cons pe_str pa_nil), fun _ => pe_str, fun _ => pe_lstS (pa_cons pe_str pa_nil)⟩
def formQ1 : Pos := match (defBody s_law_form).getD 0 (.Pass ⟨0, 0, 0, 0⟩) with | .Assign [.Name _ p] _ _ => p | _ => ⟨0, 0, 0, 0⟩
def formQ2 : Pos := match (defBody s_law_form).getD 0 (.Pass ⟨0, 0, 0, 0⟩) with | .Assign _ _ p => p | _ => ⟨0, 0, 0, 0⟩
theorem form_body : defBody s_law_form = .Assign [.Name "_law_kinds" formQ1] formE formQ2 :: formR := by kernel_rfl
theorem form_pack : ∃ (k1 k2 k3 k4 k5 v1 v2 v3 v4 v5 : Expr) (p q1 q2 : Pos), defBody s_law_form = .Assign [.Name "_law_kinds" q1] (.Dict [some k1, some k2, some k3, some k4, some k5] [v1, v2, v3, v4, v5] p) q2 :: formR ∧ (∀ X, PE X k1 (tC (.str (Str.ofString "goto")))) ∧ (∀ X, PE X v1 tN1) ∧ (∀ X, PE X k2 (tC (.str (Str.ofString "out")))) ∧ (∀ X, PE X v2 tN1) ∧ (∀ X, PE X k3 (tC (.str (Str.ofString "keep")))) ∧ (∀ X, PE X v3 tN1) ∧ (∀ X, PE X k4 (tC (.str (Str.ofString "block")))) ∧ (∀ X, PE X v4 tN1) ∧ (∀ X, PE X k5 (tC (.str (Str.ofString "unblock")))) ∧ (∀ X, PE X v5 tN1) := by
  obtain ⟨k1, k2, k3, k4, k5, v1, v2, v3, v4, v5, p, h, a1, b1, a2, b2, a3, b3, a4, b4, a5, b5⟩ := form_L
  exact ⟨k1, k2, k3, k4, k5, v1, v2, v3, v4, v5, p, formQ1, formQ2, by rw [← h]; exact form_body, a1, b1, a2, b2, a3, b3, a4, b4, a5, b5⟩
def spForm : Sp := fun vs H Q _ => ∃ (w : Str) (m : Int), vs = [.str w, .int m] ∧ ∀ F H', H F = none → Same H H' → H' F = some (.lst ((kindsOf w m).map V.str)) → Q (.ref F) H'
theorem ok_law_form {P : Program} {w : World} {K : PySem.W.Frag} {mg : Str → Option Value} {base : Heap} {A : Adr} (T : Txt K mg A) : FnOk P w K mg base (CXE P w) 1 A.f_law_form A.d_law_form ["_law_word", "_law_number_here"] (spForm) := by
  refine T.F_law_form.okN sc_law_form (fun vs H Q E h => ?_) (fun cdv Ar outer s H vs Q E hr h => ?_)
  · obtain ⟨w, m, rfl, k⟩ := h
    rfl
  · obtain ⟨w, m, rfl, k⟩ := h
    obtain ⟨k1, k2, k3, k4, k5, v1, v2, v3, v4, v5, p, q1, q2, hb, a1, b1, a2, b2, a3, b3, a4, b4, a5, b5⟩ := form_pack
    rw [hb]
    refine ⟨_, (pss_cons (ps_set (i := 2) sc_law_form.nd rfl (Or.inl rfl) (pe_disp (pps_cons (a1 _) (b1 _) (pps_cons (a2 _) (b2 _) (pps_cons (a3 _) (b3 _) (pps_cons (a4 _) (b4 _) (pps_cons (a5 _) (b5 _) pps_nil))))) rfl rfl (by simp) (by show 5 ≤ 15; decide)))
      (pss_cons (ps_dput (hu1 hr) (pv 2) pe_str (pe_lstS (pa_cons pe_str (pa_cons pe_str (pa_cons pe_str (pa_cons pe_str pa_nil))))) rfl)
      (pss_cons (ps_dput (hu1 hr) (pv 2) pe_str (pe_lstS (pa_cons pe_str (pa_cons pe_str (pa_cons pe_str (pa_cons pe_str pa_nil))))) rfl)
      (pss_cons (ps_dput (hu1 hr) (pv 2) pe_str (pe_lstS (pa_cons pe_str (pa_cons pe_str (pa_cons pe_str (pa_cons pe_str pa_nil))))) rfl)
      (pss_cons (ps_dput (hu1 hr) (pv 2) pe_str (pe_lstS (pa_cons pe_str (pa_cons pe_str (pa_cons pe_str pa_nil)))) rfl)
      (pss_cons (ps_dput (hu1 hr) (pv 2) pe_str (pe_lstS (pa_cons pe_str (pa_cons pe_str (pa_cons pe_str (pa_cons pe_str pa_nil))))) rfl)
      (pss_cons (ps_dput (hu1 hr) (pv 2) pe_str (pe_lstS (pa_cons pe_str (pa_cons pe_str pa_nil))) rfl)
      (pss_cons (ps_dput (hu1 hr) (pv 2) pe_str (pe_lstS (pa_cons pe_str pa_nil)) rfl)
      (pss_cons (ps_dput (hu1 hr) (pv 2) pe_str (pe_lstS (pa_cons pe_str pa_nil)) rfl)
      (pss_cons (ps_set (i := 3) sc_law_form.nd rfl (Or.inl rfl) (pe_callTy (call_listK K) (by rfl) T.b_list boot_list (pa_cons (pe_dget2 (hu1 hr) (pv 2) (pv 0) (pe_lstS pa_nil) ⟨rfl, rfl, rfl, rfl⟩) pa_nil)))
      (pss_cons (ps_if (PW.pt (pw_and (pt_cmpR op_eq (pv 0) pe_str (nomark _)) (pw_and1 (pt_cmpR op_eq (pe_op op_mod (pv 1) pe_int) pe_int (nomark _))))) (pss_one (ps_expr (pe_bmK K PySem.F.plainAttrs_list PySem.F.slot_list_append PySem.F.type_list_append mt_append (pv 3) (pa_cons pe_str pa_nil)))) pss_nil)
      (pss_one (ps_ret (pv 3)))))))))))))), ?_⟩
    refine seq_cut (FormAt w m H tbl5) (fun N hN => ?_) ?_
    · intro D hD
      have f0 : (upd H D (HO.dK [])) D = some (HO.dK []) := upd_same
      have s0 := Same.new (o := HO.dK []) hD
      generalize upd H D (HO.dK []) = G0 at f0 s0 ⊢
      refine ⟨(by show 1 ≤ 1000; decide), fun L1 h1 => ?_⟩
      have s1 := Same.new (o := HO.lst [V.str kNumber]) h1
      have f1 : (upd G0 L1 (HO.lst [V.str kNumber])) L1 = some (HO.lst [V.str kNumber]) := upd_same
      generalize upd G0 L1 (HO.lst [V.str kNumber]) = G1 at s1 f1 ⊢
      refine ⟨(by show 1 ≤ 1000; decide), fun L2 h2 => ?_⟩
      have s2 := Same.new (o := HO.lst [V.str kNumber]) h2
      have f2 : (upd G1 L2 (HO.lst [V.str kNumber])) L2 = some (HO.lst [V.str kNumber]) := upd_same
      generalize upd G1 L2 (HO.lst [V.str kNumber]) = G2 at s2 f2 ⊢
      refine ⟨(by show 1 ≤ 1000; decide), fun L3 h3 => ?_⟩
      have s3 := Same.new (o := HO.lst [V.str kNumber]) h3
      have f3 : (upd G2 L3 (HO.lst [V.str kNumber])) L3 = some (HO.lst [V.str kNumber]) := upd_same
      generalize upd G2 L3 (HO.lst [V.str kNumber]) = G3 at s3 f3 ⊢
      refine ⟨(by show 1 ≤ 1000; decide), fun L4 h4 => ?_⟩
      have s4 := Same.new (o := HO.lst [V.str kNumber]) h4
      have f4 : (upd G3 L4 (HO.lst [V.str kNumber])) L4 = some (HO.lst [V.str kNumber]) := upd_same
      generalize upd G3 L4 (HO.lst [V.str kNumber]) = G4 at s4 f4 ⊢
      refine ⟨(by show 1 ≤ 1000; decide), fun L5 h5 => ?_⟩
      have s5 := Same.new (o := HO.lst [V.str kNumber]) h5
      have f5 : (upd G4 L5 (HO.lst [V.str kNumber])) L5 = some (HO.lst [V.str kNumber]) := upd_same
      generalize upd G4 L5 (HO.lst [V.str kNumber]) = G5 at s5 f5 ⊢
      have f05 := s5 _ _ (s4 _ _ (s3 _ _ (s2 _ _ (s1 _ _ f0))))
      have g1 := s5 _ _ (s4 _ _ (s3 _ _ (s2 _ _ f1)))
      have g2 := s5 _ _ (s4 _ _ (s3 _ _ f2))
      have g3 := s5 _ _ (s4 _ _ f3)
      have g4 := s5 _ _ f4
      have sA := ((((s0.trans s1).trans s2).trans s3).trans s4).trans s5
      refine ⟨f05, [(.inr (Str.ofString "goto"), .ref L1), (.inr (Str.ofString "out"), .ref L2), (.inr (Str.ofString "keep"), .ref L3), (.inr (Str.ofString "block"), .ref L4), (.inr (Str.ofString "unblock"), .ref L5)], rfl, (by show 5 ≤ 15; decide), hN _ _ ⟨D, _, rfl, hD, upd_same, Tab.keep (H := G5) ?_ (fun L' xs e => ?_), sA.upd hD⟩⟩
      · exact ((((Tab.nil.put (l := [kNumber]) (Str.ofString "goto") g1).put (l := [kNumber]) (Str.ofString "out") g2).put (l := [kNumber]) (Str.ofString "keep") g3).put (l := [kNumber]) (Str.ofString "block") g4).put (l := [kNumber]) (Str.ofString "unblock") f5
      · rw [upd_ne (fun z => by rw [z, f05] at e; cases e)]
        exact e
    rintro σ0 H0 ⟨D0, kvs0, rfl, n0, d0, t0, s0⟩
    refine seq_cut (FormAt w m H tbl6) (fun N hN => ?_) ?_
    · refine ⟨(by show 4 ≤ 1000; decide), fun L hL => ?_⟩
      obtain ⟨a1, a2, a3, a4, a5⟩ := form_put (Str.ofString "put") [kNumber, kTime, kTime, kTime] n0 d0 t0 (by decide) s0 hL
      exact ⟨_, rfl, D0, _, rfl, DPut.k (k := .inr (Str.ofString "put")) a1 a2, hN _ _ ⟨D0, _, rfl, n0, a3, a4, a5⟩⟩
    rintro σ1 H1 ⟨D1, kvs1, rfl, n1, d1, t1, s1⟩
    refine seq_cut (FormAt w m H tbl7) (fun N hN => ?_) ?_
    · refine ⟨(by show 4 ≤ 1000; decide), fun L hL => ?_⟩
      obtain ⟨a1, a2, a3, a4, a5⟩ := form_put (Str.ofString "tell") [kNumber, kName, kSide, kWorth] n1 d1 t1 (by decide) s1 hL
      exact ⟨_, rfl, D1, _, rfl, DPut.k (k := .inr (Str.ofString "tell")) a1 a2, hN _ _ ⟨D1, _, rfl, n1, a3, a4, a5⟩⟩
    rintro σ2 H2 ⟨D2, kvs2, rfl, n2, d2, t2, s2⟩
    refine seq_cut (FormAt w m H tbl8) (fun N hN => ?_) ?_
    · refine ⟨(by show 4 ≤ 1000; decide), fun L hL => ?_⟩
      obtain ⟨a1, a2, a3, a4, a5⟩ := form_put (Str.ofString "alone") [kNumber, kName, kSide, kWorth] n2 d2 t2 (by decide) s2 hL
      exact ⟨_, rfl, D2, _, rfl, DPut.k (k := .inr (Str.ofString "alone")) a1 a2, hN _ _ ⟨D2, _, rfl, n2, a3, a4, a5⟩⟩
    rintro σ3 H3 ⟨D3, kvs3, rfl, n3, d3, t3, s3⟩
    refine seq_cut (FormAt w m H tbl9) (fun N hN => ?_) ?_
    · refine ⟨(by show 3 ≤ 1000; decide), fun L hL => ?_⟩
      obtain ⟨a1, a2, a3, a4, a5⟩ := form_put (Str.ofString "untell") [kNumber, kName, kSide] n3 d3 t3 (by decide) s3 hL
      exact ⟨_, rfl, D3, _, rfl, DPut.k (k := .inr (Str.ofString "untell")) a1 a2, hN _ _ ⟨D3, _, rfl, n3, a3, a4, a5⟩⟩
    rintro σ4 H4 ⟨D4, kvs4, rfl, n4, d4, t4, s4⟩
    refine seq_cut (FormAt w m H tbl10) (fun N hN => ?_) ?_
    · refine ⟨(by show 4 ≤ 1000; decide), fun L hL => ?_⟩
      obtain ⟨a1, a2, a3, a4, a5⟩ := form_put (Str.ofString "fill") [kName, kName, kSide, kWorth] n4 d4 t4 (by decide) s4 hL
      exact ⟨_, rfl, D4, _, rfl, DPut.k (k := .inr (Str.ofString "fill")) a1 a2, hN _ _ ⟨D4, _, rfl, n4, a3, a4, a5⟩⟩
    rintro σ5 H5 ⟨D5, kvs5, rfl, n5, d5, t5, s5⟩
    refine seq_cut (FormAt w m H tbl11) (fun N hN => ?_) ?_
    · refine ⟨(by show 2 ≤ 1000; decide), fun L hL => ?_⟩
      obtain ⟨a1, a2, a3, a4, a5⟩ := form_put (Str.ofString "move") [kName, kLevel] n5 d5 t5 (by decide) s5 hL
      exact ⟨_, rfl, D5, _, rfl, DPut.k (k := .inr (Str.ofString "move")) a1 a2, hN _ _ ⟨D5, _, rfl, n5, a3, a4, a5⟩⟩
    rintro σ6 H6 ⟨D6, kvs6, rfl, n6, d6, t6, s6⟩
    refine seq_cut (FormAt w m H tbl12) (fun N hN => ?_) ?_
    · refine ⟨(by show 1 ≤ 1000; decide), fun L hL => ?_⟩
      obtain ⟨a1, a2, a3, a4, a5⟩ := form_put (Str.ofString "down") [kLevel] n6 d6 t6 (by decide) s6 hL
      exact ⟨_, rfl, D6, _, rfl, DPut.k (k := .inr (Str.ofString "down")) a1 a2, hN _ _ ⟨D6, _, rfl, n6, a3, a4, a5⟩⟩
    rintro σ7 H7 ⟨D7, kvs7, rfl, n7, d7, t7, s7⟩
    refine seq_cut (FormAt w m H tblT) (fun N hN => ?_) ?_
    · refine ⟨(by show 1 ≤ 1000; decide), fun L hL => ?_⟩
      obtain ⟨a1, a2, a3, a4, a5⟩ := form_put (Str.ofString "spare") [kName] n7 d7 t7 (by decide) s7 hL
      exact ⟨_, rfl, D7, _, rfl, DPut.k (k := .inr (Str.ofString "spare")) a1 a2, hN _ _ ⟨D7, _, rfl, n7, a3, a4, a5⟩⟩
    rintro σ9 H9 ⟨D, kvs, rfl, nD, hD, ht, s9⟩
    refine seq_cut (fun σ' H' => ∃ D F, σ' = [some (.str w), some (.int m), some (.ref D), some (.ref F)] ∧ Same H H' ∧ H F = none ∧ H' F = some (.lst (((look tblT w).getD []).map V.str))) (fun N hN => ?_) ?_
    · refine ⟨_, rfl, D, rfl, .inl ⟨kvs, .inl hD⟩, _, rfl, (by decide), fun p hp => ?_⟩
      have sp := Same.new (o := HO.lst []) hp
      have fp : (upd H9 p (HO.lst [])) p = some (HO.lst []) := upd_same
      have hD2 := sp _ _ hD
      generalize upd H9 p (HO.lst []) = G at sp fp hD2 ⊢
      refine ⟨_, DGet.k (k := .inr w) hD2, ?_⟩
      cases e : look tblT w with
      | none =>
        rw [(ht.2 w).1 e]
        exact ⟨p, [], rfl, SqL.of fp, fun F hF => hN _ _ ⟨D, F, rfl, (s9.trans sp).trans (Same.new hF), (s9.trans sp).free hF, by rw [e]; exact upd_same⟩⟩
      | some l =>
        obtain ⟨L, eL, hL⟩ := (ht.2 w).2 l e
        rw [eL]
        exact ⟨L, _, rfl, SqL.of (sp _ _ hL), fun F hF => hN _ _ ⟨D, F, rfl, (s9.trans sp).trans (Same.new hF), (s9.trans sp).free hF, by rw [e]; exact upd_same⟩⟩
    rintro σA HA ⟨D, F, rfl, sA, nF, hF⟩
    refine seq_cut (fun σ' H' => ∃ D F, σ' = [some (.str w), some (.int m), some (.ref D), some (.ref F)] ∧ Same H H' ∧ H F = none ∧ H' F = some (.lst ((kindsOf w m).map V.str))) (fun N hN => ?_) ?_
    · have no : ¬ (w = putT ∧ m % 2 = 1) → kindsOf w m = (look tblT w).getD [] := fun z => by unfold kindsOf; rw [if_neg z, List.append_nil]
      refine ⟨_, rfl, rfl, _, rfl, ?_⟩
      refine ite2 (fun c => ?_) (fun c => iteF (hN _ _ ⟨D, F, rfl, sA, nF, by rw [no (fun z => c (deT z.1))]; exact hF⟩))
      have cw : w = putT := by have := of_decide_eq_true c; injection this
      refine ⟨_, rfl, _, _, rfl, rfl, (by show (0 : Int) < 2; decide), rfl, _, rfl, ?_⟩
      refine ite2 (fun c2 => ?_) (fun c2 => hN _ _ ⟨D, F, rfl, sA, nF, by rw [no (fun z => c2 (decide_eq_true (congrArg V.int z.2)))]; exact hF⟩)
      have c2 : m % 2 = 1 := V.int.inj (of_decide_eq_true c2)
      have l4 : (((look tblT w).getD []).map V.str).length < sizeLine := small1000 (by rw [cw, look_put]; decide)
      refine ⟨_, rfl, .inl ⟨rfl, _, SqL.of hF⟩, F, _, _, rfl, rfl, hF, l4, hN _ _ ⟨D, F, rfl, sA.upd nF, nF, ?_⟩⟩
      rw [upd_same]
      unfold kindsOf
      rw [if_pos ⟨cw, c2⟩, List.map_append]
      rfl
    rintro σB HB ⟨D, F, rfl, sB, nF, hF⟩
    exact ⟨_, rfl, k F _ nF sB hF⟩
theorem go_app {a b : List Str} {o : Option (List V)} (h : Go a b o) : ∀ {c : List V}, o = some c → ∀ {a' b' : List Str} {c' : List V}, Go a' b' (some c') → Go (a ++ a') (b ++ b') (some (c ++ c')) := by
  induction h with
  | nil => intro c e a' b' c' g; cases e; exact g
  | lit k ks ws r h t ih => intro c e a' b' c' g; exact .lit k _ _ _ h (ih e g)
  | litNo => intro c e; cases e
  | thing k w v ks ws r h ht hv t ih =>
    intro c e a' b' c' g
    cases r with
    | none => cases e
    | some c0 =>
      cases e
      exact .thing k w v _ _ (some (c0 ++ c')) h ht hv (ih rfl g)
  | thingNo => intro c e; cases e
theorem go_len {a b : List Str} {o : Option (List V)} (h : Go a b o) : ∀ {c : List V}, o = some c → a.length = b.length := by
  induction h with
  | nil => intro c e; rfl
  | lit k ks ws r h t ih => intro c e; rw [List.length_cons, List.length_cons, ih e]
  | litNo => intro c e; cases e
  | thing k w v ks ws r h ht hv t ih =>
    intro c e
    cases r with
    | none => cases e
    | some c0 => rw [List.length_cons, List.length_cons, ih rfl]
  | thingNo => intro c e; cases e
theorem go_vs {a b : List Str} {o : Option (List V)} (h : Go a b o) : ∀ {c : List V}, o = some c → c.length ≤ b.length := by
  induction h with
  | nil => intro c e; cases e; exact Nat.le_refl _
  | lit k ks ws r h t ih => intro c e; have := ih e; rw [List.length_cons]; omega
  | litNo => intro c e; cases e
  | thing k w v ks ws r h ht hv t ih =>
    intro c e
    cases r with
    | none => cases e
    | some c0 =>
      cases e
      have := ih rfl
      rw [List.length_cons, List.length_cons]; omega
  | thingNo => intro c e; cases e
theorem fk_nil {i : Nat} {fs : List Str} (h : FK i [] fs) : fs = [] := by cases h; rfl
theorem kin_up {kd fk : Str} (h : Kin kd fk) : Txt.islower fk = false := by
  cases h <;> decide +kernel
def Plain (v : V) : Prop := (∃ n : Int, v = .int n) ∨ ∃ z : Str, v = .str z
theorem Plain.ne {v : V} (h : Plain v) : v ≠ .non := by
  rcases h with ⟨n, rfl⟩ | ⟨z, rfl⟩ <;> (intro e; cases e)
theorem go_thing {kd fk w : Str} {v : V} (hk : Kin kd fk) (h : Tx fk w v) : Go [fk] [w] (some [v]) := .thing fk w v [] [] (some []) (kin_up hk) h.th (Plain.ne h.plain) .nil
theorem fol_low : Txt.islower folT = true := by decide +kernel
theorem go_fol {kd fk w : Str} {v : V} (hk : Kin kd fk) (h : Tx fk w v) : Go [folT, fk] [folT, w] (some [v]) := .lit folT _ _ _ fol_low (go_thing hk h)
def Wd (y : Str) : Prop := (32 : Nat) ∉ cs y ∧ y.length ≤ 20
theorem wd_fol : Wd folT := ⟨by decide +kernel, by decide +kernel⟩
structure RowIs (x h : Str) (n : Int) (w : Str) (os : List V) (r f : List Str) : Prop where
  good : Good h n w r os f
  txt : cs x = joinL 32 ((h :: secT n :: w :: r).map cs)
  wd : ∀ y ∈ h :: secT n :: w :: r, Wd y
  few : r.length ≤ 6
  plain : ∀ v ∈ os, Plain v
theorem words_wd : ∀ w ∈ wordsT, Wd w := by
  have : ∀ w ∈ wordsT, (32 : Nat) ∉ cs w ∧ w.length ≤ 20 := by decide +kernel
  exact this
theorem sum_len : ∀ {ys : List Str}, (∀ y ∈ ys, y.length ≤ 20) → (ys.map (·.length)).sum ≤ 20 * ys.length
  | [], _ => Nat.le_refl _
  | y :: ys, h => by
    have h1 := h y (by simp)
    have h2 := sum_len (ys := ys) fun z hz => h z (List.mem_cons_of_mem _ hz)
    rw [List.map_cons, List.sum_cons, List.length_cons]
    omega
def rowE : Expr := match (defBody s_law_row).getD 0 (.Pass ⟨0, 0, 0, 0⟩) with | .Assign _ e _ => e | _ => .List [] ⟨0, 0, 0, 0⟩
def rowL : List Expr := match rowE with | .List es _ => es | _ => []
def rowR : List Stmt := (defBody s_law_row).tail
theorem row_z : strsOf rowL = some wordsA := by kernel_rfl
def rowQ1 : Pos := match (defBody s_law_row).getD 0 (.Pass ⟨0, 0, 0, 0⟩) with | .Assign [.Name _ p] _ _ => p | _ => ⟨0, 0, 0, 0⟩
def rowQ2 : Pos := match rowE with | .List _ p => p | _ => ⟨0, 0, 0, 0⟩
def rowQ3 : Pos := match (defBody s_law_row).getD 0 (.Pass ⟨0, 0, 0, 0⟩) with | .Assign _ _ p => p | _ => ⟨0, 0, 0, 0⟩
theorem row_body : defBody s_law_row = .Assign [.Name "_law_words" rowQ1] (.List rowL rowQ2) rowQ3 :: rowR := by kernel_rfl
theorem row_pack : ∃ (l : List Expr) (p1 p2 p3 : Pos), defBody s_law_row = .Assign [.Name "_law_words" p1] (.List l p2) p3 :: rowR ∧ ∀ X : Cx, PA X l (tStrs wordsA) := ⟨rowL, rowQ1, rowQ2, rowQ3, row_body, fun X => @pa_strs X rowL wordsA row_z⟩
def spRowL : Sp := fun vs H Q _ => ∃ (c m : Int), vs = [.int c, .int m] ∧ 0 ≤ m ∧ ∀ p x h n w os r f N H', RowIs x h n w os r f → Same H H' → H' p = some (.tup [.str x, .str h, .int n, .str w, .ref N]) → H' N = some (.lst os) → Q (.ref p) H'
theorem ok_law_row {P : Program} {w : World} {K : PySem.W.Frag} {mg : Str → Option Value} {base : Heap} {A : Adr} (T : Txt K mg A) : FnOk P w K mg base (CXE P w) 3 A.f_law_row A.d_law_row ["_law_cell", "_law_number_here"] (spRowL) := by
  have G_law_form := ok_law_form (P := P) (w := w) (base := base) T
  have G_law_name := ok_law_name (P := P) (w := w) (base := base) T
  have G_law_thing := ok_law_thing (P := P) (w := w) (base := base) T
  refine T.F_law_row.okN sc_law_row (fun vs H Q E h => ?_) (fun cdv Ar outer s H vs Q E hr h => ?_)
  · obtain ⟨c, m, rfl, h0, k⟩ := h
    rfl
  · obtain ⟨c, m, rfl, h0, k⟩ := h
    obtain ⟨lA, q1, q2, q3, hb, hpa⟩ := row_pack
    rw [hb]
    refine ⟨_, (pss_cons (ps_set (i := 2) sc_law_row.nd rfl (Or.inl rfl) (pe_lstS (hpa _)))
      (pss_cons (ps_set (i := 3) sc_law_row.nd rfl (Or.inl rfl) (pe_ix (ix_listK K) (pe_op op_cat (pv 2) (pe_lstS (pa_cons pe_str (pa_cons pe_str (pa_cons pe_str (pa_cons pe_str pa_nil)))))) (pe_op op_mod (pv 0) pe_int) (fun _ _ => rfl)))
      (pss_cons (ps_set (i := 4) sc_law_row.nd rfl (Or.inl rfl) (pe_call G_law_name (hr.mono (by decide)) (by rfl) T.m_law_name T.F_law_name.kp T.bb_law_name .nil passE0 (pa_cons (pv 1) pa_nil)))
      (pss_cons (ps_set (i := 5) sc_law_row.nd rfl (Or.inl rfl) (pe_menu (pa_cons (pe_op op_mod (pv 1) pe_int) (pa_cons (pe_op op_mod (pe_op op_mul (pv 1) pe_int) (pe_op op_powS pe_int pe_int)) (pa_cons (pe_op op_mod (pv 1) (pe_op op_powS pe_int pe_int)) (pa_cons (pe_op op_sub (pe_op op_sub (pe_op op_powS pe_int pe_int) pe_int) (pe_op op_mod (pv 1) pe_int)) pa_nil)))) (pe_op op_mod (pe_op op_fdivL (pv 1) pe_int) pe_int) (fun _ _ => rfl)))
      (pss_cons (ps_set (i := 6) sc_law_row.nd rfl (Or.inl rfl) (pe_lstS pa_nil))
      (pss_cons (ps_set (i := 7) sc_law_row.nd rfl (Or.inl rfl) (pe_lstS (pa_cons (pv 4) (pa_cons (pe_callTy call_str_int (by rfl) T.b_str boot_strT (pa_cons (pv 5) pa_nil)) (pa_cons (pv 3) pa_nil)))))
      (pss_cons (ps_for PassesOwn.never rfl (pi_enum K (by rfl) T.b_enumerate (pa_cons (pe_call G_law_form (hr.mono (by decide)) (by rfl) T.m_law_form T.F_law_form.kp T.bb_law_form .nil passE0 (pa_cons (pv 3) (pa_cons (pv 1) pa_nil))) pa_nil)) (pg_tupK (n := 2) K rfl (pgs_cons (pg_name (i := 8) sc_law_row.nd rfl (Or.inl rfl)) (pgs_cons (pg_name (i := 9) sc_law_row.nd rfl (Or.inl rfl)) pgs_nil))) (pss_cons (ps_asg (pe_call G_law_thing (hr.mono (by decide)) (by rfl) T.m_law_thing T.F_law_thing.kp T.bb_law_thing .nil passE0 (pa_cons (pv 9) (pa_cons (pe_op op_mod (pe_op op_mul (pv 1) (pe_op op_add pe_int (pe_op op_mul pe_int (pv 8)))) (pe_op op_sub pe_int (pe_op op_mul pe_int (pv 8)))) pa_nil))) (pg_tupK (n := 2) K rfl (pgs_cons (pg_name (i := 10) sc_law_row.nd rfl (Or.inl rfl)) (pgs_cons (pg_name (i := 11) sc_law_row.nd rfl (Or.inl rfl)) pgs_nil))))
      (pss_cons (ps_if (pt_cmpR op_eq (pv 8) pe_int (nomark _)) (pss_one (ps_expr (pe_bmK K PySem.F.plainAttrs_list PySem.F.slot_list_append PySem.F.type_list_append mt_append (pv 7) (pa_cons pe_str pa_nil)))) pss_nil)
      (pss_cons (ps_expr (pe_bmK K PySem.F.plainAttrs_list PySem.F.slot_list_append PySem.F.type_list_append mt_append (pv 6) (pa_cons (pv 10) pa_nil)))
      (pss_one (ps_expr (pe_bmK K PySem.F.plainAttrs_list PySem.F.slot_list_append PySem.F.type_list_append mt_append (pv 7) (pa_cons (pv 11) pa_nil))))))))
      (pss_one (ps_ret (pe_tupS (pa_cons (pe_bmK K PySem.F.plainAttrs_str PySem.F.slot_str_join PySem.F.type_str_join (mt_join K) pe_str (pa_cons (pv 7) pa_nil)) (pa_cons (pv 4) (pa_cons (pv 5) (pa_cons (pv 3) (pa_cons (pv 6) pa_nil))))))))))))))), ?_⟩
    have lenA : wordsA.length = 13 := rfl
    refine seq_cut (fun σ' H' => ∃ L, σ' = [some (.int c), some (.int m), some (.ref L), none, none, none, none, none, none, none, none, none] ∧ Same H H' ∧ H' L = some (.lst (wordsA.map V.str))) (fun N hN => ?_) ?_
    · exact ⟨(by rw [List.length_map, lenA]; decide), fun L hL => hN _ _ ⟨L, rfl, Same.new hL, upd_same⟩⟩
    rintro σ1 H1 ⟨L, rfl, s1, hL⟩
    refine seq_cut (fun σ' H' => ∃ w, σ' = [some (.int c), some (.int m), some (.ref L), some (.str w), none, none, none, none, none, none, none, none] ∧ Same H H' ∧ w ∈ wordsT) (fun N hN => ?_) ?_
    · refine ⟨_, rfl, (by show 4 ≤ 1000; decide), fun p hp => ?_⟩
      have sp := Same.new (o := HO.lst (wordsB.map V.str)) hp
      have fp : (upd H1 p (HO.lst (wordsB.map V.str))) p = some (HO.lst (wordsB.map V.str)) := upd_same
      have hL2 := sp _ _ hL
      refine ⟨L, p, _, _, rfl, rfl, hL2, fp, le_line (by rw [List.length_map, List.length_map, lenA]; decide), fun q hq => ?_⟩
      have hl : (c % 17).toNat < wordsT.length := by show (c % 17).toNat < 17; omega
      have hv := atI_nat (xs := wordsT.map V.str) (j := (c % 17).toNat) (v := .str wordsT[(c % 17).toNat]) (by rw [List.getElem?_map, List.getElem?_eq_getElem hl]; rfl)
      rw [Int.toNat_of_nonneg (by omega)] at hv
      have hm := List.getElem_mem hl
      generalize wordsT[(c % 17).toNat] = w at hv hm
      refine ⟨_, rfl, _, _, rfl, rfl, (by show (0 : Int) < 17; decide), q, _, _, _, rfl, rfl, SqL.of upd_same, ?_, hN _ _ ⟨w, rfl, (s1.trans sp).trans (Same.new hq), hm⟩⟩
      rw [← List.map_append]
      exact hv
    rintro σ2 H2 ⟨w, rfl, s2, hw⟩
    refine seq_cut (fun σ' H' => ∃ h, σ' = [some (.int c), some (.int m), some (.ref L), some (.str w), some (.str h), none, none, none, none, none, none, none] ∧ H' = H2 ∧ lampB h = true) (fun N hN => ?_) ?_
    · exact ⟨_, rfl, m, rfl, h0, fun h hh => hN _ _ ⟨h, rfl, rfl, hh⟩⟩
    rintro σ3 H3 ⟨h, rfl, rfl, hh⟩
    refine seq_cut (fun σ' H' => ∃ n : Int, σ' = [some (.int c), some (.int m), some (.ref L), some (.str w), some (.str h), some (.int n), none, none, none, none, none, none] ∧ H' = H3 ∧ 0 ≤ n ∧ n ≤ 999999999999) (fun N hN => ?_) ?_
    · have p12 : (10 : Int) ^ Int.toNat 12 = 1000000000000 := by decide
      refine ⟨_, rfl, _, _, rfl, rfl, (by show (0 : Int) < 300; decide), _, rfl, _, _, rfl, rfl, .inr ⟨by decide, by decide⟩, _, _, rfl, rfl, ⟨by decide, by decide, by decide, by decide⟩, _, _, rfl, rfl, (by show (0 : Int) < 10 ^ 12; decide), _, rfl, _, _, rfl, rfl, ⟨by decide, by decide, by decide, by decide⟩, _, _, rfl, rfl, (by show (0 : Int) < 10 ^ 12; decide), _, _, rfl, rfl, ⟨by decide, by decide, by decide, by decide⟩, _, _, rfl, rfl, _, rfl, _, _, rfl, rfl, (by show (0 : Int) < 3; decide), _, _, rfl, rfl, ?_⟩
      simp only [p12]
      have mm := menu_all (P := fun x => 0 ≤ x ∧ x ≤ 999999999999) (ns := [m % 300, m * 1009 % 1000000000000, m % 1000000000000, 1000000000000 - 1 - m % 3]) (k := m / 3 % 4) (by
        intro x hx
        rcases List.mem_cons.mp hx with rfl | hx
        · omega
        rcases List.mem_cons.mp hx with rfl | hx
        · omega
        rcases List.mem_cons.mp hx with rfl | hx
        · omega
        rcases List.mem_cons.mp hx with rfl | hx
        · omega
        cases hx) (by omega) (by show _ < ((4 : Nat) : Int); omega)
      exact ⟨(by show 4 ≤ 1000; decide), _, rfl, _, _, rfl, rfl, ⟨by decide, by decide⟩, _, _, rfl, rfl, (by show (0 : Int) < 4; decide), _, _, rfl, rfl, by omega, (by show m / 3 % 4 < 4; omega), (by show (4 : Int) < 1000; decide), hN _ _ ⟨_, rfl, rfl, mm.1, mm.2⟩⟩
    rintro σ4 H4 ⟨n, rfl, rfl, n0, n1⟩
    refine seq_cut (fun σ' H' => ∃ R, σ' = [some (.int c), some (.int m), some (.ref L), some (.str w), some (.str h), some (.int n), some (.ref R), none, none, none, none, none] ∧ Same H H' ∧ H R = none ∧ H' R = some (.lst [])) (fun N hN => ?_) ?_
    · exact ⟨by decide, fun R hR => hN _ _ ⟨R, rfl, s2.trans (Same.new hR), s2.free hR, upd_same⟩⟩
    rintro σ5 H5 ⟨R, rfl, s5, nR, hR⟩
    have fsec : ∀ y ∈ [h, secT n, w], Wd y := fun y hy => by
      simp only [List.mem_cons, List.not_mem_nil, or_false] at hy
      rcases hy with rfl | rfl | rfl
      · obtain ⟨a, b⟩ := lamp_free hh; exact ⟨a, by omega⟩
      · exact ⟨sec_free n0, sec_len20 n0 (by omega)⟩
      · exact words_wd _ hw
    refine seq_cut (fun σ' H' => ∃ M, σ' = [some (.int c), some (.int m), some (.ref L), some (.str w), some (.str h), some (.int n), some (.ref R), some (.ref M), none, none, none, none] ∧ Same H H' ∧ H M = none ∧ M ≠ R ∧ H' R = some (.lst []) ∧ H' M = some (.lst ([h, secT n, w].map V.str))) (fun N hN => ?_) ?_
    · refine ⟨_, rfl, _, rfl, _, rfl, log40 (by omega), _, rfl, (by show 3 ≤ 1000; decide), fun M hM => hN _ _ ⟨M, rfl, s5.trans (Same.new hM), s5.free hM, (ne_of_none hR hM).symm, (Same.new hM) _ _ hR, upd_same⟩⟩
    rintro σ6 H6 ⟨M, rfl, s6, nM, neMR, hR6, hM6⟩
    obtain ⟨f, hf, hfh, hfk⟩ := form_ok w hw m
    have few := kinds_few w hw m
    refine seq_cut (fun σ' H' => ∃ v8 v9 v10 v11 vs ts, σ' = [some (.int c), some (.int m), some (.ref L), some (.str w), some (.str h), some (.int n), some (.ref R), some (.ref M), v8, v9, v10, v11] ∧ Same H H' ∧ H' R = some (.lst vs) ∧ H' M = some (.lst ((h :: secT n :: w :: ts).map V.str)) ∧ Go f.tail ts (some vs) ∧ (∀ y ∈ ts, Wd y) ∧ ts.length ≤ 6 ∧ ∀ v ∈ vs, Plain v) (fun N hN => ?_) ?_
    · refine ⟨_, rfl, _, rfl, w, m, rfl, fun F H7 nF s7 hF => ?_⟩
      have neFM : F ≠ M := (ne_of_none hM6 nF).symm
      have neFR : F ≠ R := (ne_of_none hR6 nF).symm
      generalize hks : kindsOf w m = ks at hfk few hF
      refine ⟨F, _, rfl, SqL.of hF, ?_⟩
      have s67 := s6.trans s7
      refine for_enum (K := K) (xs := ks.map V.str) (fun i σ' G => ∃ v8 v9 v10 v11 vs ts fd fr, σ' = [some (.int c), some (.int m), some (.ref L), some (.str w), some (.str h), some (.int n), some (.ref R), some (.ref M), v8, v9, v10, v11] ∧ Same H G ∧ G F = some (.lst (ks.map V.str)) ∧ G R = some (.lst vs) ∧ G M = some (.lst ((h :: secT n :: w :: ts).map V.str)) ∧ f.tail = fd ++ fr ∧ FK i (ks.drop i) fr ∧ Go fd ts (some vs) ∧ (∀ y ∈ ts, Wd y) ∧ (∀ v ∈ vs, Plain v) ∧ ts.length ≤ i + 1 ∧ (i ≤ 4 → ts.length ≤ i) ∧ vs.length ≤ i) ⟨_, _, _, _, [], [], [], f.tail, rfl, s67, hF, s7 _ _ hR6, s7 _ _ hM6, rfl, hfk, .nil, (fun _ z => by cases z), (fun _ z => by cases z), Nat.zero_le _, fun _ => Nat.le_refl _, Nat.le_refl _⟩ ?_ ?_ ?_
      · rintro i σ' G _ ⟨_, _, _, _, _, _, _, _, _, _, hFG, _⟩
        exact SqL.of hFG
      · rintro i x q σ' G hx ⟨v8, v9, v10, v11, vs, ts, fd, fr, rfl, sG, gF, gR, gM, hfr, fk, go, hwd, hpl, l1, l2, l3⟩ hq
        rw [List.getElem?_map] at hx
        cases hki : ks[i]? with
        | none => rw [hki] at hx; cases hx
        | some kd =>
          rw [hki] at hx
          obtain rfl : V.str kd = x := by simpa using hx
          have hil : i < ks.length := (List.getElem?_eq_some_iff.mp hki).1
          have hi5 : i < 5 := by omega
          have ek : ks.drop i = kd :: ks.drop (i + 1) := by rw [List.drop_eq_getElem_cons hil, (List.getElem?_eq_some_iff.mp hki).2]
          rw [ek] at fk
          obtain ⟨fk1, fs, hkin, fkt, hfs⟩ : ∃ fk1 fs, Kin kd fk1 ∧ FK (i + 1) (ks.drop (i + 1)) fs ∧ ((i ≠ 4 ∧ fr = fk1 :: fs) ∨ (i = 4 ∧ fr = folT :: fk1 :: fs)) := by
            cases fk with
            | one hi h t => exact ⟨_, _, h, t, .inl ⟨hi, rfl⟩⟩
            | fol h t => exact ⟨_, _, h, t, .inr ⟨rfl, rfl⟩⟩
          have sq := Same.new (o := HO.tup [V.int i, V.str kd]) hq
          have eq : (upd G q (HO.tup [V.int i, V.str kd])) q = some (HO.tup [V.int i, V.str kd]) := upd_same
          generalize upd G q (HO.tup [V.int i, V.str kd]) = G1 at sq eq ⊢
          refine ⟨q, _, rfl, SqT.of eq, rfl, ?_⟩
          refine ⟨_, _, rfl, _, _, rfl, rfl, ?_⟩
          have e1 : (0 : Int) ≤ 69621 + 40692 * (i : Int) := by omega
          have e2 : (69621 + 40692 * (i : Int)) < 1000000 := by omega
          have e3 : (0 : Int) < 999999937 - 2 * (i : Int) := by omega
          refine seq_cut (fun σ' G' => ∃ v t, σ' = [some (.int c), some (.int m), some (.ref L), some (.str w), some (.str h), some (.int n), some (.ref R), some (.ref M), some (.int i), some (.str kd), some v, some (.str t)] ∧ Same G G' ∧ Tx fk1 t v) (fun N2 hN2 => ?_) ?_
          · refine ⟨_, rfl, _, rfl, _, rfl, _, _, rfl, rfl, .inr ⟨by omega, by omega⟩, _, _, rfl, rfl, _, _, rfl, rfl, .inr ⟨by omega, by omega⟩, _, rfl, _, _, rfl, rfl, .inr ⟨by omega, by omega⟩, _, _, rfl, rfl, _, _, rfl, rfl, e3, kd, fk1, _, rfl, hkin, Int.emod_nonneg _ (by omega), fun p v t G2 s2 hp ht => ?_⟩
            refine ⟨p, _, rfl, SqT.of hp, rfl, ?_⟩
            exact ⟨_, _, rfl, _, _, rfl, rfl, hN2 _ _ ⟨v, t, rfl, sq.trans s2, ht⟩⟩
          rintro σ7 G2 ⟨v, t, rfl, sG2, htx⟩
          have wt : Wd t := ⟨htx.free, htx.len⟩
          refine seq_cut (fun σ' G' => ∃ ts', σ' = [some (.int c), some (.int m), some (.ref L), some (.str w), some (.str h), some (.int n), some (.ref R), some (.ref M), some (.int i), some (.str kd), some v, some (.str t)] ∧ Same H G' ∧ G' F = some (.lst (ks.map V.str)) ∧ G' R = some (.lst vs) ∧ G' M = some (.lst ((h :: secT n :: w :: ts').map V.str)) ∧ ((i ≠ 4 ∧ ts' = ts) ∨ (i = 4 ∧ ts' = ts ++ [folT]))) (fun N2 hN2 => ?_) ?_
          · refine ⟨_, rfl, rfl, _, rfl, ?_⟩
            refine ite2 (fun cc => ?_) (fun cc => hN2 _ _ ⟨ts, rfl, sG.trans sG2, sG2 _ _ gF, sG2 _ _ gR, sG2 _ _ gM, .inl ⟨fun z => cc (decide_eq_true (by rw [z]; rfl)), rfl⟩⟩)
            have i4 : i = 4 := by have := V.int.inj (of_decide_eq_true cc); omega
            have gM2 := sG2 _ _ gM
            refine ⟨_, rfl, .inl ⟨rfl, _, SqL.of gM2⟩, M, _, _, rfl, rfl, gM2, small1000 (by rw [List.length_map]; simp only [List.length_cons]; omega), hN2 _ _ ⟨ts ++ [folT], rfl, (sG.trans sG2).upd nM, ?_, ?_, ?_, .inr ⟨i4, rfl⟩⟩⟩
            · rw [upd_ne neFM]; exact sG2 _ _ gF
            · rw [upd_ne neMR.symm]; exact sG2 _ _ gR
            · rw [upd_same]; simp
          rintro σ8 G3 ⟨ts', rfl, sG3, g3F, g3R, g3M, hts⟩
          refine seq_cut (fun σ' G' => σ' = [some (.int c), some (.int m), some (.ref L), some (.str w), some (.str h), some (.int n), some (.ref R), some (.ref M), some (.int i), some (.str kd), some v, some (.str t)] ∧ Same H G' ∧ G' F = some (.lst (ks.map V.str)) ∧ G' R = some (.lst (vs ++ [v])) ∧ G' M = some (.lst ((h :: secT n :: w :: ts').map V.str))) (fun N2 hN2 => ?_) ?_
          · exact ⟨_, rfl, .inl ⟨rfl, _, SqL.of g3R⟩, _, rfl, R, _, _, rfl, rfl, g3R, small1000 (by omega), hN2 _ _ ⟨rfl, sG3.upd nR, by rw [upd_ne neFR]; exact g3F, upd_same, by rw [upd_ne neMR]; exact g3M⟩⟩
          rintro σ9 G4 ⟨rfl, sG4, g4F, g4R, g4M⟩
          have lts : ts'.length ≤ 6 := by
            rcases hts with ⟨_, rfl⟩ | ⟨_, rfl⟩
            · omega
            · rw [List.length_append]; simp only [List.length_cons, List.length_nil]; omega
          refine ⟨_, rfl, .inl ⟨rfl, _, SqL.of g4M⟩, _, rfl, M, _, _, rfl, rfl, g4M, small1000 (by rw [List.length_map]; simp only [List.length_cons]; omega), ?_⟩
          have fin : ∀ fd', f.tail = fd' ++ fs → Go fd' (ts' ++ [t]) (some (vs ++ [v])) → (∀ y ∈ ts', Wd y) → ts'.length + 1 ≤ i + 2 → (i + 1 ≤ 4 → ts'.length + 1 ≤ i + 1) →
              ∃ v8 v9 v10 v11 vs ts fd fr, ([some (.int c), some (.int m), some (.ref L), some (.str w), some (.str h), some (.int n), some (.ref R), some (.ref M), some (.int i), some (.str kd), some v, some (.str t)] : St) = [some (.int c), some (.int m), some (.ref L), some (.str w), some (.str h), some (.int n), some (.ref R), some (.ref M), v8, v9, v10, v11] ∧ Same H (upd G4 M (.lst ((h :: secT n :: w :: ts').map V.str ++ [.str t]))) ∧ (upd G4 M (.lst ((h :: secT n :: w :: ts').map V.str ++ [.str t]))) F = some (.lst (ks.map V.str)) ∧ (upd G4 M (.lst ((h :: secT n :: w :: ts').map V.str ++ [.str t]))) R = some (.lst vs) ∧ (upd G4 M (.lst ((h :: secT n :: w :: ts').map V.str ++ [.str t]))) M = some (.lst ((h :: secT n :: w :: ts).map V.str)) ∧ f.tail = fd ++ fr ∧ FK (i + 1) (ks.drop (i + 1)) fr ∧ Go fd ts (some vs) ∧ (∀ y ∈ ts, Wd y) ∧ (∀ v ∈ vs, Plain v) ∧ ts.length ≤ i + 1 + 1 ∧ (i + 1 ≤ 4 → ts.length ≤ i + 1) ∧ vs.length ≤ i + 1 := by
            intro fd' e1 e2 e3 e4 e5
            refine ⟨_, _, _, _, vs ++ [v], ts' ++ [t], fd', fs, rfl, sG4.upd nM, by rw [upd_ne neFM]; exact g4F, by rw [upd_ne neMR.symm]; exact g4R, by rw [upd_same]; simp, e1, fkt, e2, fun y hy => ?_, fun y hy => ?_, ?_, fun z => ?_, ?_⟩
            · rcases List.mem_append.mp hy with z | z
              · exact e3 y z
              · rw [List.mem_singleton.mp z]; exact wt
            · rcases List.mem_append.mp hy with z | z
              · exact hpl y z
              · rw [List.mem_singleton.mp z]; exact htx.plain
            · rw [List.length_append]; simp only [List.length_cons, List.length_nil]; omega
            · rw [List.length_append]; simp only [List.length_cons, List.length_nil]; exact e5 z
            · rw [List.length_append]; simp only [List.length_cons, List.length_nil]; omega
          rcases hfs with ⟨i4, efr⟩ | ⟨i4, efr⟩
          · obtain rfl : ts' = ts := by
              rcases hts with ⟨_, z⟩ | ⟨z, _⟩
              · exact z
              · exact absurd z i4
            exact fin (fd ++ [fk1]) (by rw [hfr, efr]; simp) (go_app go rfl (go_thing hkin htx)) hwd (by omega) (fun _ => by omega)
          · obtain rfl : ts' = ts ++ [folT] := by
              rcases hts with ⟨z, _⟩ | ⟨_, z⟩
              · exact absurd i4 z
              · exact z
            refine fin (fd ++ [folT, fk1]) (by rw [hfr, efr]; simp) (by have := go_app go rfl (go_fol hkin htx); rw [List.append_assoc]; exact this) (fun y hy => ?_) (by rw [List.length_append]; simp only [List.length_cons, List.length_nil]; omega) (fun z => by omega)
            rcases List.mem_append.mp hy with z | z
            · exact hwd y z
            · rw [List.mem_singleton.mp z]; exact wd_fol
      · rintro σ' G ⟨v8, v9, v10, v11, vs, ts, fd, fr, rfl, sG, gF, gR, gM, hfr, fk, go, hwd, hpl, l1, l2, l3⟩
        rw [List.length_map] at fk l1
        rw [List.drop_length] at fk
        rw [fk_nil fk, List.append_nil] at hfr
        exact hN _ _ ⟨v8, v9, v10, v11, vs, ts, rfl, sG, gR, gM, by rw [hfr]; exact go, hwd, by omega, hpl⟩
    rintro σ7 H7 ⟨v8, v9, v10, v11, vs, ts, rfl, s7, hR7, hM7, go, hwd, lts, hpl⟩
    obtain ⟨f1, f2, _⟩ := form_head f hf
    have ef : f = w :: f.tail := by
      cases f with
      | nil => exact absurd rfl f1
      | cons a b => rw [← hfh]; rfl
    have hgood : Good h n w ts vs f := by
      have gg : Go f (w :: ts) (some vs) := by rw [ef]; exact .lit w _ _ _ (by rw [← hfh]; exact f2) go
      exact ⟨hh, n0, n1, hf, hfh, gg, go_len gg rfl⟩
    have hall : ∀ y ∈ h :: secT n :: w :: ts, Wd y := fun y hy => by
      have : h :: secT n :: w :: ts = [h, secT n, w] ++ ts := rfl
      rw [this] at hy
      rcases List.mem_append.mp hy with z | z
      · exact fsec y z
      · exact hwd y z
    refine ⟨rfl, _, rfl, blankT, M, h :: secT n :: w :: ts, rfl, rfl, SqL.of hM7, ?_, _, rfl, _, rfl, _, rfl, _, rfl, (by show 5 ≤ 1000; decide), fun p hp => ?_⟩
    · have := sum_len fun y hy => (hall y hy).2
      have l1 : blankT.length = 1 := by decide +kernel
      rw [l1]
      simp only [List.length_cons] at this ⊢
      omega
    · refine k p _ h n w vs ts f R _ ⟨hgood, ?_, hall, lts, hpl⟩ (s7.trans (Same.new hp)) upd_same ((Same.new hp) _ _ hR7)
      unfold Txt.join
      rw [StrLaws.glued_eq_join, blank_is, join_cs]
theorem joinL_cons {c : Nat} {w : List Nat} {ws : List (List Nat)} (h : ws ≠ []) : joinL c (w :: ws) = w ++ c :: joinL c ws := by
  cases ws with
  | nil => exact absurd rfl h
  | cons a b => rfl
theorem join_cons (w : Str) (ws : List Str) (h : ws ≠ []) : joinL 32 ((w :: ws).map cs) = cs w ++ 32 :: joinL 32 (ws.map cs) := by
  rw [List.map_cons]
  exact joinL_cons (by simpa using h)
theorem joinL_snoc {c : Nat} {w : List Nat} : ∀ {ws : List (List Nat)}, ws ≠ [] → joinL c (ws ++ [w]) = joinL c ws ++ c :: w
  | [], h => absurd rfl h
  | [a], _ => rfl
  | a :: b :: r, _ => by
    have ih := joinL_snoc (c := c) (w := w) (ws := b :: r) (by simp)
    show a ++ c :: joinL c ((b :: r) ++ [w]) = (a ++ c :: joinL c (b :: r)) ++ c :: w
    rw [ih]; simp
theorem joinL_len {c B : Nat} : ∀ {ws : List (List Nat)}, (∀ w ∈ ws, w.length ≤ B) → (joinL c ws).length ≤ (B + 1) * ws.length
  | [], _ => Nat.zero_le _
  | [a], h => by have := h a (by simp); show a.length ≤ (B + 1) * 1; omega
  | a :: b :: r, h => by
    have h1 := h a (by simp)
    have ih := joinL_len (c := c) (B := B) (ws := b :: r) fun w hw => h w (List.mem_cons_of_mem _ hw)
    show (a ++ c :: joinL c (b :: r)).length ≤ (B + 1) * ((b :: r).length + 1)
    rw [List.length_append, List.length_cons, Nat.mul_succ]
    omega
def NoT (z : Str) : Prop := z.length ≤ 800 ∧ (∀ w ∈ Txt.split z blankT, w.length ≤ 100) ∧ RowNo (Txt.split z blankT)
theorem NoT.v {K : PySem.W.Frag} {H : Hp} {z : Str} (h : NoT z) : NoRowV K H (.str z) := .txt z h.1 h.2.1 h.2.2
theorem split_blank {z : Str} {ws : List Str} (hne : ws ≠ []) (hc : cs z = joinL 32 (ws.map cs)) (hf : ∀ w ∈ ws, (32 : Nat) ∉ cs w) : Txt.split z blankT = ws := by
  rw [blank_is]
  exact split_of hne hf hc
theorem no_t {z : Str} {ws : List Str} (hne : ws ≠ []) (hc : cs z = joinL 32 (ws.map cs)) (hf : ∀ w ∈ ws, (32 : Nat) ∉ cs w ∧ w.length ≤ 40) (hl : ws.length ≤ 14) (h : RowNo ws) : NoT z := by
  have e := split_blank hne hc fun w hw => (hf w hw).1
  refine ⟨?_, ?_, ?_⟩
  · rw [← cs_len, hc]
    have := joinL_len (c := 32) (B := 40) (ws := ws.map cs) fun w hw => by
      obtain ⟨y, hy, rfl⟩ := List.mem_map.mp hw
      rw [cs_len]; exact (hf y hy).2
    rw [List.length_map] at this
    omega
  · rw [e]; exact fun w hw => Nat.le_trans (hf w hw).2 (by decide)
  · rw [e]; exact h
structure Wds (x : Str) (h : Str) (n : Int) (w : Str) (r : List Str) : Prop where
  txt : cs x = joinL 32 ((h :: secT n :: w :: r).map cs)
  wd : ∀ y ∈ h :: secT n :: w :: r, Wd y
  few : r.length ≤ 6
theorem RowIs.wds {x h : Str} {n : Int} {w : Str} {os : List V} {r f : List Str} (i : RowIs x h n w os r f) : Wds x h n w r := ⟨i.txt, i.wd, i.few⟩
section
variable {x h : Str} {n : Int} {w : Str} {os : List V} {r f : List Str}
theorem Wds.l (i : Wds x h n w r) : ∀ y ∈ h :: secT n :: w :: r, (32 : Nat) ∉ cs y ∧ y.length ≤ 40 := fun y hy => ⟨(i.wd y hy).1, Nat.le_trans (i.wd y hy).2 (by decide)⟩
theorem Wds.len (i : Wds x h n w r) : x.length ≤ 189 ∧ 1 ≤ x.length := by
  have l1 := joinL_len (c := 32) (B := 20) (ws := (h :: secT n :: w :: r).map cs) fun y hy => by
    obtain ⟨z, hz, rfl⟩ := List.mem_map.mp hy
    rw [cs_len]; exact (i.wd z hz).2
  rw [← i.txt, cs_len, List.length_map] at l1
  simp only [List.length_cons] at l1
  have := i.few
  refine ⟨by omega, ?_⟩
  rw [← cs_len, i.txt]
  show 1 ≤ (cs h ++ 32 :: joinL 32 ((secT n :: w :: r).map cs)).length
  rw [List.length_append, List.length_cons]; omega
theorem Wds.cut (i : Wds x h n w r) : cs x = cs h ++ 32 :: joinL 32 ((secT n :: w :: r).map cs) := i.txt
theorem Wds.h32 (i : Wds x h n w r) : (32 : Nat) ∉ cs h := (i.wd h (by simp)).1
theorem RowIs.split (i : RowIs x h n w os r f) : Txt.split x blankT = h :: secT n :: w :: r := split_blank (by simp) i.txt fun y hy => (i.wd y hy).1
theorem blank_cs : cs blankT = [32] := by decide +kernel
theorem RowIs.no0 (i : RowIs x h n w os r f) : NoT (x ++ blankT) := by
  refine no_t (ws := (h :: secT n :: w :: r) ++ [Str.ofString ""]) (by simp) ?_ ?_ (by have := i.few; simp; omega) (i.good.more _)
  · rw [cs_app, blank_cs, i.txt, List.map_append]
    show _ = joinL 32 (_ ++ [cs (Str.ofString "")])
    rw [joinL_snoc (by simp), cs_empty]
  · intro y hy
    rcases List.mem_append.mp hy with z | z
    · exact i.wds.l y z
    · rw [List.mem_singleton.mp z, cs_empty]; exact ⟨by simp, by decide +kernel⟩
theorem RowIs.no1 (i : RowIs x h n w os r f) : NoT (blankT ++ x) := by
  refine no_t (ws := Str.ofString "" :: (h :: secT n :: w :: r)) (by simp) ?_ ?_ (by have := i.few; simp; omega) no_ahead
  · rw [cs_app, blank_cs, i.txt, join_cons (Str.ofString "") (h :: secT n :: w :: r) (by simp), cs_empty]; rfl
  · intro y hy
    rcases List.mem_cons.mp hy with z | z
    · rw [z, cs_empty]; exact ⟨by simp, by decide +kernel⟩
    · exact i.wds.l y z
theorem two_cs : cs (Str.ofString "  ") = [32, 32] := by decide +kernel
theorem rep_cs (i : Wds x h n w r) : cs (LS.rep1 x blankT (Str.ofString "  ")) = cs h ++ ([32, 32] ++ joinL 32 ((secT n :: w :: r).map cs)) := by
  rw [blank_is, LS.rep1_cut i.cut i.h32, two_cs]
theorem RowIs.no2 (i : RowIs x h n w os r f) : NoT (LS.rep1 x blankT (Str.ofString "  ")) := by
  refine no_t (ws := h :: Str.ofString "" :: (secT n :: w :: r)) (by simp) ?_ ?_ (by have := i.few; simp; omega) no_gap
  · rw [rep_cs i.wds, join_cons h (Str.ofString "" :: secT n :: w :: r) (by simp), join_cons (Str.ofString "") (secT n :: w :: r) (by simp), cs_empty]; rfl
  · intro y hy
    rcases List.mem_cons.mp hy with z | z
    · rw [z]; exact i.wds.l h (by simp)
    rcases List.mem_cons.mp z with z | z
    · rw [z, cs_empty]; exact ⟨by simp, by decide +kernel⟩
    · exact i.wds.l y (List.mem_cons_of_mem _ z)
theorem up_one : ∀ c ∈ List.range' 97 26, Txt.upper ⟨#[c]⟩ = ⟨#[c - 32]⟩ := by decide +kernel
theorem let_range {c : Nat} (h : isLet c = true) : c ∈ List.range' 97 26 := by
  have : ∀ k, isLet k = true → 97 ≤ k ∧ k ≤ 122 := fun k hk => by
    unfold isLet at hk
    simp only [Bool.and_eq_true, decide_eq_true_eq] at hk
    omega
  have := this c h
  rw [List.mem_range'_1]
  omega
theorem lamp_head {z : Str} (h : lampB z = true) : ∃ c q, cs z = c :: q ∧ isLet c = true := by
  unfold lampB at h
  simp only [Bool.and_eq_true, decide_eq_true_eq] at h
  cases e : cs z with
  | nil =>
    have := cs_len z
    rw [e] at this
    simp at this
    omega
  | cons c q => exact ⟨c, q, rfl, List.all_eq_true.mp h.2.2 c (by rw [e]; simp)⟩
theorem RowIs.no3 (i : RowIs x h n w os r f) : NoT (Txt.upper (Txt.slice x none (some 1)) ++ Txt.slice x (some 1) none) ∧ (Txt.upper (Txt.slice x none (some 1))).length = 1 := by
  obtain ⟨c, q, eh, hc⟩ := lamp_head i.good.hand
  have hl := i.wds.len
  have ex : cs x = c :: (q ++ 32 :: joinL 32 ((secT n :: w :: r).map cs)) := by rw [i.wds.cut, eh]; rfl
  have e1 : Txt.slice x none (some 1) = ⟨#[c]⟩ := cs_inj (by rw [slice_to (by decide) (by omega), ex]; rfl)
  have cr := let_range hc
  have e2 := up_one c cr
  have e3 : cs (Txt.slice x (some 1) none) = q ++ 32 :: joinL 32 ((secT n :: w :: r).map cs) := by rw [LS.slice_from (by decide) (by omega), ex]; rfl
  rw [e1, e2]
  refine ⟨?_, rfl⟩
  have ch := (i.wd h (by simp))
  have c32 : c - 32 ≠ 32 ∧ isLet (c - 32) = false := by
    have : ∀ k ∈ List.range' 97 26, k - 32 ≠ 32 ∧ isLet (k - 32) = false := by decide +kernel
    exact this c cr
  have eh2 : cs (⟨((c - 32) :: q).toArray⟩ : Str) = (c - 32) :: q := by simp [cs]
  refine no_t (ws := ⟨((c - 32) :: q).toArray⟩ :: (secT n :: w :: r)) (by simp) ?_ ?_ (by have := i.few; simp; omega) (.hand _ _ (not_lamp (c := c - 32) (by rw [eh2]; simp) c32.2))
  · rw [cs_app, e3, join_cons ⟨((c - 32) :: q).toArray⟩ (secT n :: w :: r) (by simp), eh2]; rfl
  · intro y hy
    rcases List.mem_cons.mp hy with z | z
    · rw [z, eh2]
      refine ⟨fun m => ?_, ?_⟩
      · rcases List.mem_cons.mp m with m | m
        · exact c32.1 m.symm
        · exact ch.1 (by rw [eh]; exact List.mem_cons_of_mem _ m)
      · rw [← cs_len, eh2]
        have := ch.2
        rw [← cs_len, eh] at this
        simp only [List.length_cons] at this ⊢
        omega
    · exact i.wds.l y (List.mem_cons_of_mem _ z)
theorem x_cs : cs (Str.ofString " x") = [32, 120] := by decide +kernel
theorem RowIs.no4 (i : RowIs x h n w os r f) : NoT (x ++ Str.ofString " x") := by
  refine no_t (ws := (h :: secT n :: w :: r) ++ [Str.ofString "x"]) (by simp) ?_ ?_ (by have := i.few; simp; omega) (i.good.more _)
  · have e : cs (Str.ofString "x") = [120] := by decide +kernel
    rw [cs_app, x_cs, i.txt, List.map_append]
    show _ = joinL 32 (_ ++ [cs (Str.ofString "x")])
    rw [joinL_snoc (by simp), e]
  · intro y hy
    rcases List.mem_append.mp hy with z | z
    · exact i.wds.l y z
    · rw [List.mem_singleton.mp z]; exact ⟨by decide +kernel, by decide +kernel⟩
theorem last_of (l : List Str) (h : l ≠ []) : ∃ a b, l = a ++ [b] := ⟨l.dropLast, l.getLast h, (List.dropLast_concat_getLast h).symm⟩
theorem RowIs.no5 (i : RowIs x h n w os r f) : 0 ≤ Txt.rfind x blankT ∧ NoT (Txt.slice x none (some (Txt.rfind x blankT))) := by
  obtain ⟨a, b, e⟩ := last_of (h :: secT n :: w :: r) (by simp)
  have la : a ≠ [] := fun z => by
    rw [z] at e
    have := congrArg List.length e
    simp at this
  have ed : (h :: secT n :: w :: r).dropLast = a := by rw [e]; simp
  have ec : cs x = joinL 32 (a.map cs) ++ 32 :: cs b := by
    rw [i.txt, e, List.map_append]
    show joinL 32 (_ ++ [cs b]) = _
    exact joinL_snoc (by simpa using la)
  have mem : ∀ y, y ∈ a ++ [b] → y ∈ h :: secT n :: w :: r := fun y hy => by rw [e]; exact hy
  have hb : (32 : Nat) ∉ cs b := (i.wd b (mem b (by simp))).1
  have hr : Txt.rfind x blankT = ((joinL 32 (a.map cs)).length : Int) := by rw [blank_is]; exact LS.rfind_cut ec hb
  have hx : (joinL 32 (a.map cs)).length ≤ x.length := by rw [← cs_len x, ec, List.length_append]; omega
  rw [hr]
  refine ⟨by omega, no_t (ws := a) la ?_ (fun y hy => i.wds.l y (mem y (List.mem_append_left _ hy))) ?_ (by have := i.good.less; rw [ed] at this; exact this)⟩
  · rw [slice_to (by omega) (by omega), ec]
    simp
  · have := congrArg List.length e
    have l6 := i.few
    simp only [List.length_cons, List.length_append, List.length_nil] at this
    omega
theorem Wds.find (i : Wds x h n w r) : Txt.find x blankT = ((cs h).length : Int) := by rw [blank_is]; exact LS.find_cut i.cut i.h32
theorem Wds.at_to (i : Wds x h n w r) : cs (Txt.slice x none (some (Txt.find x blankT + 1))) = cs h ++ [32] ∧ cs (Txt.slice x (some (Txt.find x blankT + 1)) none) = joinL 32 ((secT n :: w :: r).map cs) ∧ 0 ≤ Txt.find x blankT + 1 := by
  have hx : (cs h).length + 1 ≤ x.length := by rw [← cs_len x, i.cut, List.length_append, List.length_cons]; omega
  have e : cs x = (cs h ++ [32]) ++ joinL 32 ((secT n :: w :: r).map cs) := by rw [i.cut]; simp
  have el : ((((cs h).length : Int) + 1).toNat) = (cs h ++ [32]).length := by rw [List.length_append]; simp only [List.length_cons, List.length_nil]; omega
  rw [i.find, slice_to (by omega) (by omega), LS.slice_from (by omega) (by omega), el, e]
  exact ⟨List.take_left, List.drop_left, by omega⟩
theorem RowIs.noAt (i : RowIs x h n w os r f) (z : Str) (c : Nat) (hz : cs z = [c]) (hc : c ≠ 32) (hno : RowNo (h :: (z ++ secT n) :: w :: r)) : NoT (Txt.slice x none (some (Txt.find x blankT + 1)) ++ z ++ Txt.slice x (some (Txt.find x blankT + 1)) none) := by
  obtain ⟨e1, e2, _⟩ := i.wds.at_to
  refine no_t (ws := h :: (z ++ secT n) :: w :: r) (by simp) ?_ ?_ (by have := i.few; simp; omega) hno
  · rw [cs_app, cs_app, e1, e2, hz]
    rw [join_cons h ((z ++ secT n) :: w :: r) (by simp), join_cons (z ++ secT n) (w :: r) (by simp), join_cons (secT n) (w :: r) (by simp), cs_app, hz]
    simp
  · intro y hy
    rcases List.mem_cons.mp hy with q | q
    · rw [q]; exact i.wds.l h (by simp)
    rcases List.mem_cons.mp q with q | q
    · rw [q, cs_app, hz]
      have := i.wd (secT n) (by simp)
      refine ⟨fun m => ?_, ?_⟩
      · rcases List.mem_append.mp m with m | m
        · exact hc (List.mem_singleton.mp m).symm
        · exact this.1 m
      · rw [← cs_len, cs_app, hz, List.length_append, cs_len]
        simp only [List.length_cons, List.length_nil]
        have := this.2
        omega
    · exact i.wds.l y (List.mem_cons_of_mem _ (List.mem_cons_of_mem _ q))
theorem RowIs.no6 (i : RowIs x h n w os r f) : NoT (Txt.slice x none (some (Txt.find x blankT + 1)) ++ Str.ofString "0" ++ Txt.slice x (some (Txt.find x blankT + 1)) none) := i.noAt _ 48 cs_zero (by decide) i.good.zero
theorem RowIs.no7 (i : RowIs x h n w os r f) : NoT (Txt.slice x none (some (Txt.find x blankT + 1)) ++ Str.ofString "-" ++ Txt.slice x (some (Txt.find x blankT + 1)) none) := i.noAt _ 45 (by decide +kernel) (by decide) no_minus
theorem spoil_len {z y : Str} (h : Spoil z y) (hz : Wd z) : (32 : Nat) ∉ cs y ∧ y.length ≤ 40 := by
  obtain ⟨a, b⟩ := hz
  rw [← cs_len] at b ⊢
  cases h with
  | ahead =>
    rw [cs_app, cs_zero]
    refine ⟨fun m => ?_, by rw [List.length_append]; simp only [List.length_cons, List.length_nil]; omega⟩
    rcases List.mem_append.mp m with m | m
    · revert m; decide
    · exact a m
  | behind =>
    rw [cs_app, zeros_cs]
    refine ⟨fun m => ?_, by rw [List.length_append, List.length_replicate]; omega⟩
    rcases List.mem_append.mp m with m | m
    · exact a m
    · revert m; decide
  | tab =>
    rw [cs_app, tab_cs]
    refine ⟨fun m => ?_, by rw [List.length_append]; simp only [List.length_cons, List.length_nil]; omega⟩
    rcases List.mem_append.mp m with m | m
    · exact a m
    · revert m; decide
theorem RowIs.noS (i : RowIs x h n w os r f) {j : Nat} {z y : Str} (hj : (h :: secT n :: w :: r)[j]? = some z) (hs : Spoil z y) {t : Str} (ht : cs t = joinL 32 (((h :: secT n :: w :: r).set j y).map cs)) : NoT t := by
  have sp := spoil_len hs (i.wd z (List.mem_of_getElem? hj))
  refine no_t (ws := (h :: secT n :: w :: r).set j y) (fun e => ?_) ht (fun q hq => ?_) (by have := i.few; rw [List.length_set]; simp; omega) (i.good.spoilt hj hs)
  · have := congrArg List.length e
    rw [List.length_set] at this
    simp at this
  · rcases List.mem_or_eq_of_mem_set hq with m | m
    · exact i.wds.l q m
    · rw [m]; exact sp
end
theorem only {w : Str} {r f : List Str} (hf : f ∈ formsT) (hh : f.headD blankT = w) (hl : f.length = (w :: r).length) (hg : Go f (w :: r) none) : ∀ g ∈ formsT, Tb g (w :: r) none := by
  intro g hm
  by_cases c : g.headD blankT = w
  · rcases (forms_apart g hm f hf (c.trans hh.symm)).1 with e | e
    · rw [e]; exact .inr ⟨hl, hg⟩
    · exact tb_other hm (.inr fun q => e (q.trans hl.symm))
  · exact tb_other hm (.inl c)
theorem t5 : wholeV (cs (Str.ofString "5")) 999999999999 = .int 5 := by decide +kernel
theorem const_no {z : Str} {ws : List Str} (hl : z.length ≤ 100) (e : Txt.split z blankT = ws) (hw : ∀ w ∈ ws, w.length ≤ 100) (h : RowNo ws) : NoT z := ⟨by omega, by rw [e]; exact hw, by rw [e]; exact h⟩
abbrev annT : Str := Str.ofString "ann"
abbrev fiveT : Str := Str.ofString "5"
theorem deed_no {z w : Str} {r f : List Str} (hl : z.length ≤ 100) (e : Txt.split z blankT = annT :: fiveT :: w :: r) (hw : ∀ y ∈ annT :: fiveT :: w :: r, y.length ≤ 100) (hf : f ∈ formsT) (hh : f.headD blankT = w) (hn : f.length = (w :: r).length) (hg : Go f (w :: r) none) : NoT z :=
  const_no hl e hw (.deed _ _ _ 5 t5 (only hf hh hn hg))
theorem go_numNo {w : Str} {ks ws : List Str} (h : w ≠ Str.ofString "0") (hv : wholeV (cs w) 1000000000 = .non) : Go (numT :: ks) (w :: ws) none := .thingNo _ _ _ _ (by decide +kernel) (by have := Th.num w h; rwa [hv] at this)
theorem go_num {w : Str} {n : Int} {ks ws : List Str} (h : w ≠ Str.ofString "0") (hv : wholeV (cs w) 1000000000 = .int n) (t : Go ks ws none) : Go (numT :: ks) (w :: ws) none := .thing _ _ _ _ _ none (by decide +kernel) (by have := Th.num w h; rwa [hv] at this) (fun z => by cases z) t
theorem go_time0 {ks ws : List Str} (t : Go ks ws none) : Go (timT :: ks) (Str.ofString "0" :: ws) none := by
  have e : timeT 0 = Str.ofString "0" := by decide +kernel
  exact .thing _ _ _ _ _ none (by decide +kernel) (by have := Th.time 0 (by decide) (by decide); rwa [e] at this) (fun z => by cases z) t
theorem go_name {k w : Str} {ks ws : List Str} (hu : Txt.islower k = false) (h : k ≠ numT ∧ k ≠ worT ∧ k ≠ levT ∧ k ≠ timT ∧ k ≠ sidT) (hw : lampB w = true) (t : Go ks ws none) : Go (k :: ks) (w :: ws) none := .thing _ _ _ _ _ none hu (.name _ _ h hw) (fun z => by cases z) t
theorem no_time10 : noTime (Str.ofString "1.0") := by
  intro m m0 m1 e
  have ec : cs (timeT m) = [49, 46, 48] := by rw [← e]; decide +kernel
  rw [cs_time m0] at ec
  have hp := plc (r := m % 1000) (by omega) (by omega)
  obtain ⟨⟨a, b, c⟩, _, _⟩ := sec_ok (n := m / 1000) (by omega)
  have hd : ∀ y ∈ cs (secT (m / 1000)), isDig y = true := fun y hy => List.all_eq_true.mp a y hy
  have no46 : (46 : Nat) ∉ cs (secT (m / 1000)) := fun z => by have := hd _ z; revert this; decide
  split at ec
  · exact no46 (by rw [ec]; simp)
  · have : cs (secT (m / 1000)) ++ 46 :: cs (plcT (m % 1000)) = [49] ++ 46 :: [48] := ec
    obtain ⟨_, e2⟩ := cut_uniq no46 (by decide) this
    exact hp.last (by rw [e2]; rfl)
theorem noC0 : NoT (Str.ofString "ann 1000000000000 go") := const_no (ws := [Str.ofString "ann", Str.ofString "1000000000000", Str.ofString "go"]) (by decide +kernel) (by decide +kernel) (by decide +kernel) (.tick _ _ _ (by decide +kernel))
theorem noC1 : NoT (Str.ofString "ann 5") := const_no (ws := [Str.ofString "ann", Str.ofString "5"]) (by decide +kernel) (by decide +kernel) (by decide +kernel) (.deed _ _ _ 5 t5 fun g hm => .inl ⟨fun q => (form_head g hm).1 (List.length_eq_zero_iff.mp q), rfl⟩)
theorem noC2 : NoT (Str.ofString "") := const_no (ws := [Str.ofString ""]) (by decide +kernel) (by decide +kernel) (by decide +kernel) (.hand _ _ empty_lamp)
theorem noC3 : NoT (Str.ofString "abcdefghi 5 go") := const_no (ws := [Str.ofString "abcdefghi", Str.ofString "5", Str.ofString "go"]) (by decide +kernel) (by decide +kernel) (by decide +kernel) (.hand _ _ (by decide +kernel))
theorem noC4 : NoT (Str.ofString "ann 5 gos") := const_no (ws := [Str.ofString "ann", Str.ofString "5", Str.ofString "gos"]) (by decide +kernel) (by decide +kernel) (by decide +kernel) (.deed _ _ _ 5 t5 fun g hm => tb_other hm (.inl ((by decide +kernel : ∀ g ∈ formsT, g.headD blankT ≠ Str.ofString "gos") g hm)))
theorem noC5 : NoT (Str.ofString "ann 5 down 1001") := deed_no (w := Str.ofString "down") (r := [Str.ofString "1001"]) (f := [Str.ofString "down", levT]) (by decide +kernel) (by decide +kernel) (by decide +kernel) (by decide +kernel) (by decide +kernel) rfl (.lit _ _ _ _ (by decide +kernel) (.thingNo _ _ _ _ (by decide +kernel) (by have := Th.level (Str.ofString "1001"); rwa [(by decide +kernel : wholeV (cs (Str.ofString "1001")) 1000 = .non)] at this)))
theorem noC6 : NoT (Str.ofString "ann 5 goto 0") := deed_no (w := Str.ofString "goto") (r := [Str.ofString "0"]) (f := [Str.ofString "goto", numT]) (by decide +kernel) (by decide +kernel) (by decide +kernel) (by decide +kernel) (by decide +kernel) rfl (.lit _ _ _ _ (by decide +kernel) (.thingNo _ _ _ _ (by decide +kernel) .num0))
theorem noC7 : NoT (Str.ofString "ann 5 goto 1000000001") := deed_no (w := Str.ofString "goto") (r := [Str.ofString "1000000001"]) (f := [Str.ofString "goto", numT]) (by decide +kernel) (by decide +kernel) (by decide +kernel) (by decide +kernel) (by decide +kernel) rfl (.lit _ _ _ _ (by decide +kernel) (go_numNo (by decide +kernel) (by decide +kernel)))
theorem noC8 : NoT (Str.ofString "ann 5 tell 1 bea white 5") := deed_no (w := Str.ofString "tell") (r := [Str.ofString "1", Str.ofString "bea", Str.ofString "white", Str.ofString "5"]) (f := [Str.ofString "tell", numT, lamT, sidT, worT]) (by decide +kernel) (by decide +kernel) (by decide +kernel) (by decide +kernel) (by decide +kernel) rfl (.lit _ _ _ _ (by decide +kernel) (go_num (n := 1) (by decide +kernel) (by decide +kernel) (go_name (by decide +kernel) kinds_name.1 (by decide +kernel) (.thingNo _ _ _ _ (by decide +kernel) (.noSide _ (by decide +kernel))))))
theorem noC9 : NoT (Str.ofString "ann 5 put 1 0 0 0 then 5") := deed_no (w := Str.ofString "put") (r := [Str.ofString "1", Str.ofString "0", Str.ofString "0", Str.ofString "0", Str.ofString "then", Str.ofString "5"]) (f := [putT, numT, timT, timT, timT, folT, timT]) (by decide +kernel) (by decide +kernel) (by decide +kernel) (by decide +kernel) (by decide +kernel) rfl (.lit _ _ _ _ (by decide +kernel) (go_num (n := 1) (by decide +kernel) (by decide +kernel) (go_time0 (go_time0 (go_time0 (.litNo _ _ _ _ fol_low (by decide +kernel)))))))
theorem noC10 : NoT (Str.ofString "ann 5 put 1 0 0 0 follow") := const_no (ws := [Str.ofString "ann", Str.ofString "5", Str.ofString "put", Str.ofString "1", Str.ofString "0", Str.ofString "0", Str.ofString "0", Str.ofString "follow"]) (by decide +kernel) (by decide +kernel) (by decide +kernel) (.deed _ _ _ 5 t5 fun g hm => tb_other hm ((by decide +kernel : ∀ g ∈ formsT, g.headD blankT ≠ putT ∨ g.length ≠ 6) g hm))
theorem noC11 : NoT (Str.ofString "ann 5 fill Bea bea red 1") := deed_no (w := Str.ofString "fill") (r := [Str.ofString "Bea", Str.ofString "bea", Str.ofString "red", Str.ofString "1"]) (f := [Str.ofString "fill", namT, lamT, sidT, worT]) (by decide +kernel) (by decide +kernel) (by decide +kernel) (by decide +kernel) (by decide +kernel) rfl (.lit _ _ _ _ (by decide +kernel) (.thingNo _ _ _ _ (by decide +kernel) (.noName _ _ kinds_name.2 (by decide +kernel))))
theorem noC12 : NoT (Str.ofString "ann 5 put 1 0 0 1.0") := deed_no (w := Str.ofString "put") (r := [Str.ofString "1", Str.ofString "0", Str.ofString "0", Str.ofString "1.0"]) (f := [putT, numT, timT, timT, timT]) (by decide +kernel) (by decide +kernel) (by decide +kernel) (by decide +kernel) (by decide +kernel) rfl (.lit _ _ _ _ (by decide +kernel) (go_num (n := 1) (by decide +kernel) (by decide +kernel) (go_time0 (go_time0 (.thingNo _ _ _ _ (by decide +kernel) (.noTime _ no_time10))))))
theorem noC13 : NoT (Str.ofString "ann 5 spare beatricea") := deed_no (w := Str.ofString "spare") (r := [Str.ofString "beatricea"]) (f := [Str.ofString "spare", lamT]) (by decide +kernel) (by decide +kernel) (by decide +kernel) (by decide +kernel) (by decide +kernel) rfl (.lit _ _ _ _ (by decide +kernel) (.thingNo _ _ _ _ (by decide +kernel) (.noName _ _ kinds_name.1 (by decide +kernel))))
theorem get_all {P : Str → Prop} : ∀ {zs : List Str}, (∀ z ∈ zs, P z) → ∀ {j : Nat} {y : V}, (zs.map V.str)[j]? = some y → ∃ z, y = .str z ∧ P z := by
  intro zs h j y e
  rw [List.getElem?_map] at e
  cases q : zs[j]? with
  | none => rw [q] at e; cases e
  | some z =>
    rw [q] at e
    exact ⟨z, by simpa using e.symm, h z (List.mem_of_getElem? q)⟩
def spSpW : Sp := fun vs H Q _ => ∃ (x h : Str) (n : Int) (w : Str) (os : List V) (r f : List Str) (m : Int), vs = [.str x, .int m] ∧ RowIs x h n w os r f ∧ ∀ z H', Same H H' → NoT z → Q (.str z) H'
theorem ok_law_spoilt_word {P : Program} {w : World} {K : PySem.W.Frag} {mg : Str → Option Value} {base : Heap} {A : Adr} (T : Txt K mg A) : FnOk P w K mg base (CXE P w) 1 A.f_law_spoilt_word A.d_law_spoilt_word ["_law_row_here", "_law_number_here"] (spSpW) := by
  refine T.F_law_spoilt_word.okN sc_law_spoilt_word (fun vs H Q E h => ?_) (fun cdv Ar outer s H vs Q E hr h => ?_)
  · obtain ⟨x, h, n, w, os, r, f, m, rfl, hi, k⟩ := h
    rfl
  · obtain ⟨x, h, n, w, os, r, f, m, rfl, hi, k⟩ := h
    refine ⟨_, (pss_cons (ps_set (i := 2) sc_law_spoilt_word.nd rfl (Or.inl rfl) (pe_bmK K PySem.F.plainAttrs_str PySem.F.slot_str_split PySem.F.type_str_split mt_split (pv 0) (pa_cons pe_str pa_nil)))
      (pss_cons (ps_set (i := 3) sc_law_spoilt_word.nd rfl (Or.inl rfl) (pe_op op_mod (pv 1) (pe_callB (call_lenK K) (by rfl) T.b_len PySem.boot_len (pa_cons (pv 2) pa_nil))))
      (pss_cons (ps_asg (pe_ix ix_lst (pe_lstS (pa_cons (pe_op op_add_str pe_str (pe_ix (ix_listK K) (pv 2) (pv 3) (fun _ _ => rfl))) (pa_cons (pe_op op_add_str (pe_ix (ix_listK K) (pv 2) (pv 3) (fun _ _ => rfl)) pe_str) (pa_cons (pe_op op_add_str (pe_ix (ix_listK K) (pv 2) (pv 3) (fun _ _ => rfl)) pe_str) pa_nil)))) (pe_op op_mod (pe_op op_fdivL (pv 1) pe_int) pe_int) (fun _ _ => rfl)) (pg_sub (pv 2) (pv 3) set_list))
      (pss_one (ps_ret (pe_bmK K PySem.F.plainAttrs_str PySem.F.slot_str_join PySem.F.type_str_join (mt_join K) pe_str (pa_cons (pv 2) pa_nil))))))), ?_⟩
    have hlx := hi.wds.len
    refine seq_cut (fun σ' H' => ∃ L, σ' = [some (.str x), some (.int m), some (.ref L), none] ∧ Same H H' ∧ H L = none ∧ H' L = some (.lst ((h :: secT n :: w :: r).map V.str))) (fun N hN => ?_) ?_
    · refine ⟨_, rfl, rfl, x, blankT, rfl, rfl, by decide +kernel, by omega, fun L hL => ?_⟩
      rw [hi.split]
      exact hN _ _ ⟨L, rfl, Same.new hL, hL, upd_same⟩
    rintro σ1 H1 ⟨L, rfl, s1, nL, hL⟩
    generalize hws : h :: secT n :: w :: r = ws at hL
    have lw : ws.length = r.length + 3 := by rw [← hws]; rfl
    have lf := hi.few
    have lm : (ws.map V.str).length = ws.length := List.length_map _
    have m0 := Int.emod_nonneg m (show ((ws.length : Nat) : Int) ≠ 0 by omega)
    have m1 := Int.emod_lt_of_pos m (show (0 : Int) < ((ws.length : Nat) : Int) by omega)
    refine seq_cut (fun σ' H' => σ' = [some (.str x), some (.int m), some (.ref L), some (.int (m % (ws.length : Int)))] ∧ H' = H1) (fun N hN => ?_) ?_
    · refine ⟨_, rfl, _, rfl, L, _, rfl, .inl (SqL.of hL), _, _, rfl, rfl, (by rw [lm]; omega), ?_⟩
      rw [lm]
      exact hN _ _ ⟨rfl, rfl⟩
    rintro σ2 H2 ⟨rfl, rfl⟩
    generalize hj : (m % (ws.length : Int)).toNat = j at *
    have ej : m % (ws.length : Int) = (j : Int) := by omega
    rw [ej] at m0 m1 ⊢
    have jl : j < ws.length := by omega
    obtain ⟨z, hz⟩ : ∃ z, ws[j]? = some z := ⟨_, List.getElem?_eq_getElem jl⟩
    have hat : atI (ws.map V.str) (j : Int) = some (.str z) := atI_nat (by rw [List.getElem?_map, hz]; rfl)
    have wz : Wd z := hi.wd z (by rw [hws]; exact List.mem_of_getElem? hz)
    have lz := wz.2
    refine seq_cut (fun σ' H' => ∃ y, σ' = [some (.str x), some (.int m), some (.ref L), some (.int (j : Int))] ∧ Same H H' ∧ H' L = some (.lst ((ws.set j y).map V.str)) ∧ Spoil z y) (fun N hN => ?_) ?_
    · have l12 : (Str.ofString "000000000000").length = 12 := by decide +kernel
      have l1 : (Str.ofString "0").length = 1 := by decide +kernel
      have l1t : (Str.ofString "\t").length = 1 := by decide +kernel
      refine ⟨_, rfl, _, rfl, L, _, _, _, rfl, rfl, SqL.of hL, hat, _, _, rfl, rfl, le_line (by omega), _, rfl, _, rfl, L, _, _, _, rfl, rfl, SqL.of hL, hat, _, _, rfl, rfl, le_line (by omega), _, rfl, _, rfl, L, _, _, _, rfl, rfl, SqL.of hL, hat, _, _, rfl, rfl, le_line (by omega), (by show 3 ≤ 1000; decide), fun D hD => ?_⟩
      have sD := Same.new (o := HO.lst [V.str (Str.ofString "0" ++ z), V.str (z ++ Str.ofString "000000000000"), V.str (z ++ Str.ofString "\t")]) hD
      have fD : (upd H2 D (HO.lst [V.str (Str.ofString "0" ++ z), V.str (z ++ Str.ofString "000000000000"), V.str (z ++ Str.ofString "\t")])) D = some (HO.lst [V.str (Str.ofString "0" ++ z), V.str (z ++ Str.ofString "000000000000"), V.str (z ++ Str.ofString "\t")]) := upd_same
      generalize upd H2 D (HO.lst [V.str (Str.ofString "0" ++ z), V.str (z ++ Str.ofString "000000000000"), V.str (z ++ Str.ofString "\t")]) = G at sD fD ⊢
      have sp : ∀ q ∈ [Str.ofString "0" ++ z, z ++ Str.ofString "000000000000", z ++ Str.ofString "\t"], Spoil z q := fun q hq => by
        rcases List.mem_cons.mp hq with rfl | hq
        · exact .ahead
        rcases List.mem_cons.mp hq with rfl | hq
        · exact .behind
        rcases List.mem_cons.mp hq with rfl | hq
        · exact .tab
        cases hq
      have hk : (m / 11 % 3).toNat < 3 := by omega
      obtain ⟨v, hv⟩ : ∃ v, (([Str.ofString "0" ++ z, z ++ Str.ofString "000000000000", z ++ Str.ofString "\t"] : List Str).map V.str)[(m / 11 % 3).toNat]? = some v := ⟨_, List.getElem?_eq_getElem hk⟩
      obtain ⟨y, rfl, hy⟩ := get_all sp hv
      have hv2 := atI_nat hv
      rw [Int.toNat_of_nonneg (by omega)] at hv2
      have hL2 := sD _ _ hL
      refine ⟨_, rfl, _, _, rfl, rfl, ⟨by decide, by decide⟩, _, _, rfl, rfl, (by show (0 : Int) < 3; decide), D, _, _, _, rfl, rfl, fD, hv2, ?_⟩
      have ix : ixN (ws.map V.str).length (j : Int) = some j := by
        unfold ixN
        rw [if_pos (by omega), if_pos (by rw [lm]; omega)]
        rfl
      refine ⟨_, rfl, _, rfl, L, _, _, j, rfl, rfl, hL2, ix, hN _ _ ⟨y, rfl, (s1.trans sD).upd nL, ?_, hy⟩⟩
      rw [upd_same, List.map_set]
    rintro σ3 H3 ⟨y, rfl, s3, hL3, hy⟩
    have hl20 : ∀ q ∈ ws.set j y, q.length ≤ 40 := fun q hq => by
      rcases List.mem_or_eq_of_mem_set hq with c | c
      · exact (hi.wds.l q (by rw [hws]; exact c)).2
      · rw [c]; exact (spoil_len hy wz).2
    refine ⟨rfl, _, rfl, blankT, L, ws.set j y, rfl, rfl, SqL.of hL3, ?_, k _ _ s3 (hi.noS (j := j) (by rw [hws]; exact hz) hy ?_)⟩
    · have l1 : blankT.length = 1 := by decide +kernel
      have : ∀ {ys : List Str}, (∀ q ∈ ys, q.length ≤ 40) → (ys.map (·.length)).sum ≤ 40 * ys.length := fun {ys} => by
        induction ys with
        | nil => intro _; exact Nat.le_refl _
        | cons a b ih =>
          intro hq
          have h1 := hq a (by simp)
          have h2 := ih fun q hb => hq q (List.mem_cons_of_mem _ hb)
          rw [List.map_cons, List.sum_cons, List.length_cons]
          omega
      have := this hl20
      rw [l1, List.length_set] at *
      omega
    · unfold Txt.join
      rw [StrLaws.glued_eq_join, blank_is, join_cs, hws]
def spSp : Sp := fun vs H Q _ => ∃ (x h : Str) (n : Int) (w : Str) (os : List V) (r f : List Str) (m : Int), vs = [.str x, .int m] ∧ RowIs x h n w os r f ∧ ∀ z H', Same H H' → NoT z → Q (.str z) H'
def SpAt (x : Str) (m : Int) (H0 : Hp) (k : Nat) (σ : St) (H : Hp) : Prop := ∃ (L : Addr) (zs : List Str), σ = [some (.str x), some (.int m), some (.int (Txt.rfind x blankT)), some (.int (Txt.find x blankT + 1)), some (.ref L)] ∧ Same H0 H ∧ H L = some (.lst (zs.map V.str)) ∧ zs.length = k ∧ ∀ z ∈ zs, NoT z
theorem sp_more {x : Str} {m : Int} {H0 H : Hp} {L p : Addr} {zs ys : List Str} {k j : Nat} {N : St → Hp → Prop} (hN : ∀ σ' H', SpAt x m H0 (k + j) σ' H' → N σ' H') (s : Same H0 H) (hL : H L = some (.lst (zs.map V.str))) (hl : zs.length = k) (hn : ∀ z ∈ zs, NoT z) (hj : ys.length = j) (hm : ∀ z ∈ ys, NoT z) (hp : H p = none) (hkj : k + j ≤ 100 := by decide) :
    rCat (.ref L) (.ref p) (upd H p (.lst (ys.map V.str))) fun v H' => N [some (.str x), some (.int m), some (.int (Txt.rfind x blankT)), some (.int (Txt.find x blankT + 1)), some v] H' := by
  have sp := Same.new (o := HO.lst (ys.map V.str)) hp
  refine ⟨L, p, _, _, rfl, rfl, sp _ _ hL, upd_same, le_line (by rw [List.length_map, List.length_map]; omega), fun q hq => hN _ _ ⟨q, zs ++ ys, rfl, (s.trans sp).trans (Same.new hq), by rw [upd_same, List.map_append], by rw [List.length_append, hl, hj], fun z hz => ?_⟩⟩
  rcases List.mem_append.mp hz with c | c
  · exact hn z c
  · exact hm z c
theorem ok_law_spoilt {P : Program} {w : World} {K : PySem.W.Frag} {mg : Str → Option Value} {base : Heap} {A : Adr} (T : Txt K mg A) : FnOk P w K mg base (CXE P w) 1 A.f_law_spoilt A.d_law_spoilt ["_law_row_here", "_law_way"] (spSp) := by
  refine T.F_law_spoilt.okN sc_law_spoilt (fun vs H Q E h => ?_) (fun cdv Ar outer s H vs Q E hr h => ?_)
  · obtain ⟨x, h, n, w, os, r, f, m, rfl, hi, k⟩ := h
    rfl
  · obtain ⟨x, h, n, w, os, r, f, m, rfl, hi, k⟩ := h
    refine ⟨_, (pss_cons (ps_set (i := 2) sc_law_spoilt.nd rfl (Or.inl rfl) (pe_bmK K PySem.F.plainAttrs_str PySem.F.slot_str_rfind PySem.F.type_str_rfind mt_rfind (pv 0) (pa_cons pe_str pa_nil)))
      (pss_cons (ps_set (i := 3) sc_law_spoilt.nd rfl (Or.inl rfl) (pe_op op_add (pe_bmK K PySem.F.plainAttrs_str PySem.F.slot_str_find PySem.F.type_str_find mt_find (pv 0) (pa_cons pe_str pa_nil)) pe_int))
      (pss_cons (ps_set (i := 4) sc_law_spoilt.nd rfl (Or.inl rfl) (pe_lstS (pa_cons (pe_op op_add_str (pv 0) pe_str) (pa_rep 0 (pa_cons (pe_op op_add_str (pe_bm0K K PySem.F.plainAttrs_str PySem.F.slot_str_upper PySem.F.type_str_upper mt_upper (pe_slice sl_str (pv 0) po_none (po_some pe_int))) (pe_slice sl_str (pv 0) (po_some pe_int) po_none)) (pa_cons (pe_op op_add_str (pv 0) pe_str) (pa_cons (pe_slice sl_str (pv 0) po_none (po_some (pv 2))) pa_nil)))))))
      (pss_cons (ps_set (i := 4) sc_law_spoilt.nd rfl (Or.inl rfl) (pe_op op_cat (pv 4) (pe_lstS (pa_cons (pe_op op_add_str (pe_op op_add_str (pe_slice sl_str (pv 0) po_none (po_some (pv 3))) pe_str) (pe_slice sl_str (pv 0) (po_some (pv 3)) po_none)) (pa_cons (pe_op op_add_str (pe_op op_add_str (pe_slice sl_str (pv 0) po_none (po_some (pv 3))) pe_str) (pe_slice sl_str (pv 0) (po_some (pv 3)) po_none)) (pa_cons pe_str (pa_cons pe_str (pa_cons pe_str pa_nil))))))))
      (pss_cons (ps_set (i := 4) sc_law_spoilt.nd rfl (Or.inl rfl) (pe_op op_cat (pv 4) (pe_lstS (pa_cons pe_str (pa_cons pe_str (pa_cons pe_str (pa_cons pe_str (pa_cons pe_str pa_nil))))))))
      (pss_cons (ps_set (i := 4) sc_law_spoilt.nd rfl (Or.inl rfl) (pe_op op_cat (pv 4) (pe_lstS (pa_cons pe_str (pa_cons pe_str (pa_cons pe_str pa_nil))))))
      (pss_cons (ps_set (i := 4) sc_law_spoilt.nd rfl (Or.inl rfl) (pe_op op_cat (pv 4) (pe_lstS (pa_cons pe_str (pa_cons pe_str (pa_cons pe_str pa_nil))))))
      (pss_one (ps_ret (pe_ix ix_lst (pv 4) (pe_op op_mod (pv 1) pe_int) (fun _ _ => rfl))))))))))), ?_⟩
    have hlx := hi.wds.len
    have lx := fun k (hk : k ≤ 800) => le_line (show x.length + k ≤ 1000 by omega)
    have lxs : x.length ≤ sizeLine := le_line (by omega)
    obtain ⟨l0, no5⟩ := hi.no5
    obtain ⟨no3, u1⟩ := hi.no3
    obtain ⟨a1, a2, a0⟩ := hi.wds.at_to
    refine seq_cut (fun σ' H' => σ' = [some (.str x), some (.int m), some (.int (Txt.rfind x blankT)), none, none] ∧ H' = H) (fun N hN => ?_) ?_
    · exact ⟨_, rfl, rfl, x, blankT, rfl, rfl, hN _ _ ⟨rfl, rfl⟩⟩
    rintro σ1 H1 ⟨rfl, rfl⟩
    refine seq_cut (fun σ' H' => σ' = [some (.str x), some (.int m), some (.int (Txt.rfind x blankT)), some (.int (Txt.find x blankT + 1)), none] ∧ H' = H1) (fun N hN => ?_) ?_
    · exact ⟨_, rfl, rfl, x, blankT, rfl, rfl, _, _, rfl, rfl, hN _ _ ⟨rfl, rfl⟩⟩
    rintro σ2 H2 ⟨rfl, rfl⟩
    refine seq_cut (SpAt x m H2 6) (fun N hN => ?_) ?_
    · have b1 : blankT.length = 1 := by decide +kernel
      have b0 : (Str.ofString " ").length = 1 := b1
      have b2 : (Str.ofString "  ").length = 2 := by decide +kernel
      have b3 : (Str.ofString " x").length = 2 := by decide +kernel
      have lr : (LS.rep1 x blankT (Str.ofString "  ")).length ≤ 1000 := Nat.le_trans hi.no2.1 (by decide)
      have sl := Txt.slice_le x (some 1) none
      refine ⟨_, rfl, _, _, rfl, rfl, lx _ (by rw [b1]; decide), x, rfl, (by rw [b1]; decide), hlx.2, (by omega), (by decide +kernel), (by omega), lr, ?_⟩
      refine ⟨_, rfl, 1, rfl, _, rfl, lxs, rfl, _, rfl, rfl, ?_, _, rfl, 1, rfl, _, rfl, lxs, _, _, rfl, rfl, le_line (by omega), ?_⟩
      · rw [u1]; decide
      refine ⟨_, rfl, _, _, rfl, rfl, lx _ (by rw [b3]; decide), _, rfl, _, rfl, _, rfl, _, rfl, lxs, (by show 6 ≤ 1000; decide), fun L hL => ?_⟩
      refine hN _ _ ⟨L, [x ++ blankT, blankT ++ x, LS.rep1 x blankT (Str.ofString "  "), Txt.upper (Txt.slice x none (some 1)) ++ Txt.slice x (some 1) none, x ++ Str.ofString " x", Txt.slice x none (some (Txt.rfind x blankT))], rfl, Same.new hL, upd_same, rfl, fun z hz => ?_⟩
      simp only [List.mem_cons, List.not_mem_nil, or_false] at hz
      rcases hz with rfl | rfl | rfl | rfl | rfl | rfl
      · exact hi.no0
      · exact hi.no1
      · exact hi.no2
      · exact no3
      · exact hi.no4
      · exact no5
    rintro σ3 H3 ⟨L3, zs3, rfl, s3, h3, l3, n3⟩
    refine seq_cut (SpAt x m H2 11) (fun N hN => ?_) ?_
    · have sa := Txt.slice_le x none (some (Txt.find x blankT + 1))
      have sb := Txt.slice_le x (some (Txt.find x blankT + 1)) none
      have c0 : (Str.ofString "0").length = 1 := by decide +kernel
      have c1 : (Str.ofString "-").length = 1 := by decide +kernel
      refine ⟨_, rfl, _, rfl, _, rfl, _, rfl, _, rfl, lxs, _, _, rfl, rfl, le_line (by omega), _, rfl, _, rfl, _, rfl, _, rfl, lxs, _, _, rfl, rfl, le_line (by rw [app_len]; omega), ?_⟩
      refine ⟨_, rfl, _, rfl, _, rfl, _, rfl, lxs, _, _, rfl, rfl, le_line (by omega), _, rfl, _, rfl, _, rfl, _, rfl, lxs, _, _, rfl, rfl, le_line (by rw [app_len]; omega), (by show 5 ≤ 1000; decide), fun p hp => ?_⟩
      have mem : ∀ z ∈ [Txt.slice x none (some (Txt.find x blankT + 1)) ++ Str.ofString "0" ++ Txt.slice x (some (Txt.find x blankT + 1)) none, Txt.slice x none (some (Txt.find x blankT + 1)) ++ Str.ofString "-" ++ Txt.slice x (some (Txt.find x blankT + 1)) none, Str.ofString "ann 1000000000000 go", Str.ofString "ann 5", Str.ofString ""], NoT z := fun z hz => by
        simp only [List.mem_cons, List.not_mem_nil, or_false] at hz
        rcases hz with rfl | rfl | rfl | rfl | rfl
        · exact hi.no6
        · exact hi.no7
        · exact noC0
        · exact noC1
        · exact noC2
      exact sp_more (j := 5) hN s3 h3 l3 n3 rfl mem hp
    rintro σ4 H4 ⟨L4, zs4, rfl, s4, h4, l4, n4⟩
    refine seq_cut (SpAt x m H2 16) (fun N hN => ?_) ?_
    · refine ⟨_, rfl, (by show 5 ≤ 1000; decide), fun p hp => ?_⟩
      have mem : ∀ z ∈ [Str.ofString "abcdefghi 5 go", Str.ofString "ann 5 gos", Str.ofString "ann 5 down 1001", Str.ofString "ann 5 goto 0", Str.ofString "ann 5 goto 1000000001"], NoT z := fun z hz => by
        simp only [List.mem_cons, List.not_mem_nil, or_false] at hz
        rcases hz with rfl | rfl | rfl | rfl | rfl
        · exact noC3
        · exact noC4
        · exact noC5
        · exact noC6
        · exact noC7
      exact sp_more (j := 5) hN s4 h4 l4 n4 rfl mem hp
    rintro σ5 H5 ⟨L5, zs5, rfl, s5, h5, l5, n5⟩
    refine seq_cut (SpAt x m H2 19) (fun N hN => ?_) ?_
    · refine ⟨_, rfl, (by show 3 ≤ 1000; decide), fun p hp => ?_⟩
      have mem : ∀ z ∈ [Str.ofString "ann 5 tell 1 bea white 5", Str.ofString "ann 5 put 1 0 0 0 then 5", Str.ofString "ann 5 put 1 0 0 0 follow"], NoT z := fun z hz => by
        simp only [List.mem_cons, List.not_mem_nil, or_false] at hz
        rcases hz with rfl | rfl | rfl
        · exact noC8
        · exact noC9
        · exact noC10
      exact sp_more (j := 3) hN s5 h5 l5 n5 rfl mem hp
    rintro σ6 H6 ⟨L6, zs6, rfl, s6, h6, l6, n6⟩
    refine seq_cut (SpAt x m H2 22) (fun N hN => ?_) ?_
    · refine ⟨_, rfl, (by show 3 ≤ 1000; decide), fun p hp => ?_⟩
      have mem : ∀ z ∈ [Str.ofString "ann 5 fill Bea bea red 1", Str.ofString "ann 5 put 1 0 0 1.0", Str.ofString "ann 5 spare beatricea"], NoT z := fun z hz => by
        simp only [List.mem_cons, List.not_mem_nil, or_false] at hz
        rcases hz with rfl | rfl | rfl
        · exact noC11
        · exact noC12
        · exact noC13
      exact sp_more (j := 3) hN s6 h6 l6 n6 rfl mem hp
    rintro σ7 H7 ⟨L7, zs7, rfl, s7, h7, l7, n7⟩
    have hk : (m % 22).toNat < (zs7.map V.str).length := by rw [List.length_map, l7]; omega
    obtain ⟨v, hv⟩ : ∃ v, (zs7.map V.str)[(m % 22).toNat]? = some v := ⟨_, List.getElem?_eq_getElem hk⟩
    obtain ⟨z, rfl, hz⟩ := get_all n7 hv
    have hv2 := atI_nat hv
    rw [Int.toNat_of_nonneg (by omega)] at hv2
    exact ⟨_, rfl, _, rfl, _, _, rfl, rfl, (by show (0 : Int) < 22; decide), L7, _, _, _, rfl, rfl, h7, hv2, k z _ s7 hz⟩
theorem als_same {K : PySem.W.Frag} {H : Hp} {h w : Str} {n : Int} : Als K H 0 [.str h, .int n, .str w] [.str h, .int n, .str w] := .cons (.str _) (.cons (.int _) (.cons (.str _) .nil))
theorem kit_tt {K : PySem.W.Frag} : PySem.W.kitOne K (.type "tuple") (.type "tuple") = some true := by kernel_rfl
theorem kit_ll {K : PySem.W.Frag} : PySem.W.kitOne K (.type "list") (.type "list") = some true := by kernel_rfl
def spSame : Sp := fun vs H Q _ => ∃ (p d F R : Addr) (x h w : Str) (n : Int) (os : List V), vs = [.ref p, .ref d] ∧ H p = some (.tup [.str h, .int n, .str w, .ref F]) ∧ H d = some (.tup [.str x, .str h, .int n, .str w, .ref R]) ∧ H F = some (.lst os) ∧ H R = some (.lst os) ∧ (∀ v ∈ os, Plain v) ∧ ∀ H', Same H H' → Q (.bl true) H'
theorem ok_law_same {P : Program} {w : World} {K : PySem.W.Frag} {mg : Str → Option Value} {base : Heap} {A : Adr} (T : Txt K mg A) : FnOk P w K mg base (CXE P w) 2 A.f_law_same A.d_law_same ["_law_found", "_law_due"] (spSame) := by
  have G_law_whole := ok_law_whole (P := P) (w := w) (base := base) T
  refine T.F_law_same.okN sc_law_same (fun vs H Q E h => ?_) (fun cdv Ar outer s H vs Q E hr h => ?_)
  · obtain ⟨p, d, F, R, x, h, w, n, os, rfl, hp, hd, hF, hR, hpl, k⟩ := h
    rfl
  · obtain ⟨p, d, F, R, x, h, w, n, os, rfl, hp, hd, hF, hR, hpl, k⟩ := h
    refine ⟨_, (pss_cons (ps_if (PW.pt (pw_or (pt_not (pt_val (pe_callB (call_isiT K) (by rfl) T.b_isinstance boot_isinstance (pa_cons (pv 0) (pa_cons (pe_ty (by rfl) T.b_tuple boot_tuple) pa_nil))))) (pw_or (pt_cmpR op_ne (pe_callB (call_lenK K) (by rfl) T.b_len PySem.boot_len (pa_cons (pv 0) pa_nil)) pe_int (nomark _)) (pw_or1 (pt_not (pt_val (pe_callB (call_isiT K) (by rfl) T.b_isinstance boot_isinstance (pa_cons (pe_ix (ix_tupK K) (pv 0) pe_int (fun _ _ => rfl)) (pa_cons (pe_ty (by rfl) T.b_list boot_list) pa_nil))))))))) (pss_one (ps_ret pe_bl)) pss_nil)
      (pss_cons (ps_if (PW.pt (pw_or (pt_not (pt_val (pe_call G_law_whole (hr.mono (by decide)) (by rfl) T.m_law_whole T.F_law_whole.kp T.bb_law_whole .nil passE0 (pa_cons (pe_ix (ix_tupK K) (pv 0) pe_int (fun _ _ => rfl)) pa_nil)))) (pw_or (pt_not (pt_val (pe_callB (call_isiT K) (by rfl) T.b_isinstance boot_isinstance (pa_cons (pe_ix (ix_tupK K) (pv 0) pe_int (fun _ _ => rfl)) (pa_cons (pe_ty (by rfl) T.b_str boot_strT) pa_nil))))) (pw_or1 (pt_not (pt_val (pe_callB (call_isiT K) (by rfl) T.b_isinstance boot_isinstance (pa_cons (pe_ix (ix_tupK K) (pv 0) pe_int (fun _ _ => rfl)) (pa_cons (pe_ty (by rfl) T.b_str boot_strT) pa_nil))))))))) (pss_one (ps_ret pe_bl)) pss_nil)
      (pss_cons (ps_if (PW.pt (pw_or (pt_cmpR (op_neA K hr.units) (pe_lstS (pa_cons (pe_ix (ix_tupK K) (pv 0) pe_int (fun _ _ => rfl)) (pa_cons (pe_ix (ix_tupK K) (pv 0) pe_int (fun _ _ => rfl)) (pa_cons (pe_ix (ix_tupK K) (pv 0) pe_int (fun _ _ => rfl)) pa_nil)))) (pe_lstS (pa_cons (pe_ix (ix_tupK K) (pv 1) pe_int (fun _ _ => rfl)) (pa_cons (pe_ix (ix_tupK K) (pv 1) pe_int (fun _ _ => rfl)) (pa_cons (pe_ix (ix_tupK K) (pv 1) pe_int (fun _ _ => rfl)) pa_nil)))) (nomark _)) (pw_or1 (pt_cmpR op_ne (pe_callB (call_lenK K) (by rfl) T.b_len PySem.boot_len (pa_cons (pe_ix (ix_tupK K) (pv 0) pe_int (fun _ _ => rfl)) pa_nil)) (pe_callB (call_lenK K) (by rfl) T.b_len PySem.boot_len (pa_cons (pe_ix (ix_tupK K) (pv 1) pe_int (fun _ _ => rfl)) pa_nil)) (nomark _))))) (pss_one (ps_ret pe_bl)) pss_nil)
      (pss_cons (ps_for PassesOwn.never rfl (pi_zip K (by rfl) T.b_zip (pa_cons (pe_ix (ix_tupK K) (pv 0) pe_int (fun _ _ => rfl)) (pa_cons (pe_ix (ix_tupK K) (pv 1) pe_int (fun _ _ => rfl)) pa_nil))) (pg_tupK (n := 2) K rfl (pgs_cons (pg_name (i := 2) sc_law_same.nd rfl (Or.inl rfl)) (pgs_cons (pg_name (i := 3) sc_law_same.nd rfl (Or.inl rfl)) pgs_nil))) (pss_one (ps_if (PW.pt (pw_or (pt_val (pe_callB (call_isiT K) (by rfl) T.b_isinstance boot_isinstance (pa_cons (pv 2) (pa_cons (pe_ty (by rfl) T.b_bool boot_bool) pa_nil)))) (pw_or (pt_cmpR op_ne (pe_callB (call_isiT K) (by rfl) T.b_isinstance boot_isinstance (pa_cons (pv 2) (pa_cons (pe_ty (by rfl) T.b_int boot_int) pa_nil))) (pe_callB (call_isiT K) (by rfl) T.b_isinstance boot_isinstance (pa_cons (pv 3) (pa_cons (pe_ty (by rfl) T.b_int boot_int) pa_nil))) (nomark _)) (pw_or1 (pt_cmpR op_ne (pv 2) (pv 3) (nomark _)))))) (pss_one (ps_ret pe_bl)) pss_nil)))
      (pss_one (ps_ret pe_bl)))))), ?_⟩
    refine seq_cut (fun σ' H' => σ' = [some (.ref p), some (.ref d), none, none] ∧ H' = H) (fun N hN => ?_) ?_
    · refine ⟨_, rfl, _, _, _, _, rfl, .tup hp, kit_tt, _, rfl, iteF ?_⟩
      refine ⟨_, rfl, p, _, rfl, .inr (SqT.of hp), rfl, _, rfl, iteF ?_⟩
      exact ⟨_, rfl, p, _, _, _, rfl, rfl, SqT.of hp, atI_3 _ _ _ _ _, _, _, _, _, rfl, .lst hF, kit_ll, _, rfl, iteF (hN _ _ ⟨rfl, rfl⟩)⟩
    rintro σ1 H1 ⟨rfl, rfl⟩
    refine seq_cut (fun σ' H' => σ' = [some (.ref p), some (.ref d), none, none] ∧ H' = H1) (fun N hN => ?_) ?_
    · refine ⟨_, rfl, p, _, _, _, rfl, rfl, SqT.of hp, atI_1 _ _ _, n, rfl, _, rfl, iteF ?_⟩
      refine ⟨_, rfl, p, _, _, _, rfl, rfl, SqT.of hp, atI_0 _ _, _, _, _, _, rfl, .str h, kit_sub (.inr (.inr (.inr rfl))) (.inr (.inr (.inl rfl))), _, rfl, iteF ?_⟩
      exact ⟨_, rfl, p, _, _, _, rfl, rfl, SqT.of hp, atI_2 _ _ _ _, _, _, _, _, rfl, .str w, kit_sub (.inr (.inr (.inr rfl))) (.inr (.inr (.inl rfl))), _, rfl, iteF (hN _ _ ⟨rfl, rfl⟩)⟩
    rintro σ2 H2 ⟨rfl, rfl⟩
    refine seq_cut (fun σ' H' => σ' = [some (.ref p), some (.ref d), none, none] ∧ Same H2 H') (fun N hN => ?_) ?_
    · refine ⟨_, rfl, p, _, _, _, rfl, rfl, SqT.of hp, atI_0 _ _, _, rfl, p, _, _, _, rfl, rfl, SqT.of hp, atI_1 _ _ _, _, rfl, p, _, _, _, rfl, rfl, SqT.of hp, atI_2 _ _ _ _, (by show 3 ≤ 1000; decide), fun A1 hA1 => ?_⟩
      have sA := Same.new (o := HO.lst [V.str h, V.int n, V.str w]) hA1
      have fA : (upd H2 A1 (HO.lst [V.str h, V.int n, V.str w])) A1 = some (HO.lst [V.str h, V.int n, V.str w]) := upd_same
      generalize upd H2 A1 (HO.lst [V.str h, V.int n, V.str w]) = G1 at sA fA ⊢
      have hd1 := sA _ _ hd
      refine ⟨_, rfl, d, _, _, _, rfl, rfl, SqT.of hd1, atI_1 _ _ _, _, rfl, d, _, _, _, rfl, rfl, SqT.of hd1, atI_2 _ _ _ _, _, rfl, d, _, _, _, rfl, rfl, SqT.of hd1, atI_3 _ _ _ _ _, (by show 3 ≤ 1000; decide), fun A2 hA2 => ?_⟩
      have sB := Same.new (o := HO.lst [V.str h, V.int n, V.str w]) hA2
      have fB : (upd G1 A2 (HO.lst [V.str h, V.int n, V.str w])) A2 = some (HO.lst [V.str h, V.int n, V.str w]) := upd_same
      generalize upd G1 A2 (HO.lst [V.str h, V.int n, V.str w]) = G2 at sB fB ⊢
      have hp2 := sB _ _ (sA _ _ hp)
      have hd2 := sB _ _ hd1
      refine ⟨0, A1, A2, _, _, by decide, rfl, rfl, SqL.of (sB _ _ fA), SqL.of fB, als_same, _, rfl, iteF ?_⟩
      refine ⟨_, rfl, p, _, _, _, rfl, rfl, SqT.of hp2, atI_3 _ _ _ _ _, F, _, rfl, .inl (SqL.of (sB _ _ (sA _ _ hF))), _, rfl, d, _, _, _, rfl, rfl, SqT.of hd2, atI_4 _ _ _ _ _ _, R, _, rfl, .inl (SqL.of (sB _ _ (sA _ _ hR))), rfl, _, rfl, ?_⟩
      rw [decide_eq_true rfl]
      exact iteF (hN _ _ ⟨rfl, sA.trans sB⟩)
    rintro σ3 H3 ⟨rfl, s3⟩
    refine seq_cut (fun σ' H' => Same H2 H') (fun N hN => ?_) ?_
    · refine ⟨_, rfl, p, _, _, _, rfl, rfl, SqT.of (s3 _ _ hp), atI_3 _ _ _ _ _, _, rfl, d, _, _, _, rfl, rfl, SqT.of (s3 _ _ hd), atI_4 _ _ _ _ _ _, F, R, _, _, rfl, SqL.of (s3 _ _ hF), SqL.of (s3 _ _ hR), ?_⟩
      refine for_zip (K := K) (xs := os) (ys := os) (fun i σ' G => ∃ v2 v3, σ' = [some (.ref p), some (.ref d), v2, v3] ∧ Same H2 G) rfl ⟨_, _, rfl, s3⟩ ?_ ?_ ?_
      · rintro i σ' G _ ⟨_, _, _, sm⟩
        exact ⟨SqL.of (sm _ _ hF), SqL.of (sm _ _ hR)⟩
      · rintro i a b q σ' G ha hb ⟨v2, v3, rfl, sm⟩ hq
        obtain rfl : a = b := by rw [ha] at hb; exact Option.some.inj hb
        have sq := Same.new (o := HO.tup [a, a]) hq
        refine ⟨q, _, rfl, SqT.of upd_same, rfl, ?_⟩
        refine ⟨_, _, rfl, _, _, rfl, rfl, ?_⟩
        rcases hpl a (List.mem_of_getElem? ha) with ⟨c, rfl⟩ | ⟨z, rfl⟩
        · refine ⟨_, rfl, _, _, _, _, rfl, .int c, kit_sub (.inr (.inr (.inl rfl))) (.inr (.inl rfl)), _, rfl, iteF ?_⟩
          refine ⟨_, rfl, _, _, _, _, rfl, .int c, kit_sub (.inr (.inr (.inl rfl))) (.inl rfl), _, rfl, _, _, _, _, rfl, .int c, kit_sub (.inr (.inr (.inl rfl))) (.inl rfl), rfl, _, rfl, iteF ?_⟩
          refine ⟨_, rfl, _, rfl, rfl, _, rfl, ?_⟩
          rw [decide_eq_true rfl]
          exact iteF ⟨_, _, rfl, sm.trans sq⟩
        · refine ⟨_, rfl, _, _, _, _, rfl, .str z, kit_sub (.inr (.inr (.inr rfl))) (.inr (.inl rfl)), _, rfl, iteF ?_⟩
          refine ⟨_, rfl, _, _, _, _, rfl, .str z, kit_sub (.inr (.inr (.inr rfl))) (.inl rfl), _, rfl, _, _, _, _, rfl, .str z, kit_sub (.inr (.inr (.inr rfl))) (.inl rfl), rfl, _, rfl, iteF ?_⟩
          refine ⟨_, rfl, _, rfl, rfl, _, rfl, ?_⟩
          rw [decide_eq_true rfl]
          exact iteF ⟨_, _, rfl, sm.trans sq⟩
      · rintro σ' G ⟨v2, v3, rfl, sm⟩
        exact hN _ _ sm
    intro σ4 H4 s4
    exact k _ s4
def spLaw (K : PySem.W.Frag) : Sp := fun vs H Q _ => ∃ (a : Addr) (ns : List Int), vs = [.ref a] ∧ SqL K H a (ns.map V.int) ∧ ns.length ≤ 63 ∧ ∀ H', Q (.bl true) H'
def lawI : Expr := match (defBody s_law).getD 0 (.Pass ⟨0, 0, 0, 0⟩) with | .If (.UnaryOp _ (.Call _ [.Subscript _ i _] _ _) _) _ _ _ => i | _ => .List [] ⟨0, 0, 0, 0⟩
def lawL : List Expr := match (defBody s_law).getD 0 (.Pass ⟨0, 0, 0, 0⟩) with | .If (.UnaryOp _ (.Call _ [.Subscript (.List es _) _ _] _ _) _) _ _ _ => es | _ => []
def lawB : List Stmt := match (defBody s_law).getD 0 (.Pass ⟨0, 0, 0, 0⟩) with | .If _ b _ _ => b | _ => []
def lawR : List Stmt := (defBody s_law).tail
abbrev goT : Str := Str.ofString "ann 5 go"
abbrev tSeven : TA := tCons (tC .non) (tCons (tC (.int 5)) (tCons (tLstS tNil) (tCons (tC (.bl true)) (tCons (tTupS (tCons (tC (.str goT)) tNil)) (tCons (tLstS (tCons (tC (.str goT)) tNil)) (tCons tDNewT tNil))))))
theorem law_L : ∃ e1 e2 e3 e4 e5 e6 e7, lawL = [e1, e2, e3, e4, e5, e6, e7] ∧ ItemOk e1 (tC .non) ∧ ItemOk e2 (tC (.int 5)) ∧ ItemOk e3 (tLstS tNil) ∧ ItemOk e4 (tC (.bl true)) ∧ ItemOk e5 (tTupS (tCons (tC (.str goT)) tNil)) ∧ ItemOk e6 (tLstS (tCons (tC (.str goT)) tNil)) ∧ ItemOk e7 tDNewT :=
  ⟨_, _, _, _, _, _, _, rfl, ⟨fun _ => pe_non, fun _ _ => rfl⟩, ⟨fun _ => pe_int, fun _ _ => rfl⟩, ⟨fun _ => pe_lstS pa_nil, fun _ _ => rfl⟩, ⟨fun _ => pe_bl, fun _ _ => rfl⟩, ⟨fun _ => pe_tupS (pa_cons pe_str pa_nil), fun _ _ => rfl⟩, ⟨fun _ => pe_lstS (pa_cons pe_str pa_nil), fun _ _ => rfl⟩, ⟨fun _ => pe_dnewT, fun _ _ => rfl⟩⟩
theorem law_pa {X : Cx} : PA X lawL tSeven := by
  obtain ⟨e1, e2, e3, e4, e5, e6, e7, h, i1, i2, i3, i4, i5, i6, i7⟩ := law_L
  rw [h]
  exact i1.pa (i2.pa (i3.pa (i4.pa (i5.pa (i6.pa (i7.pa pa_nil))))))
def lawQ (i : Nat) : Pos := match (defBody s_law).getD 0 (.Pass ⟨0, 0, 0, 0⟩) with | .If (.UnaryOp _ (.Call (.Name _ q1) [.Subscript (.List _ q2) _ q3] _ q4) q5) _ _ q6 => [q1, q2, q3, q4, q5, q6].getD i ⟨0, 0, 0, 0⟩ | _ => ⟨0, 0, 0, 0⟩
theorem law_body : defBody s_law = .If (.UnaryOp .Not (.Call (.Name "_law_refused" (lawQ 0)) [.Subscript (.List lawL (lawQ 1)) lawI (lawQ 2)] [] (lawQ 3)) (lawQ 4)) lawB [] (lawQ 5) :: lawR := by kernel_rfl
theorem law_pack : ∃ (l : List Expr) (q1 q2 q3 q4 q5 q6 : Pos), defBody s_law = .If (.UnaryOp .Not (.Call (.Name "_law_refused" q1) [.Subscript (.List l q2) lawI q3] [] q4) q5) lawB [] q6 :: lawR ∧ ∀ X : Cx, PA X l tSeven := ⟨lawL, _, _, _, _, _, _, law_body, fun X => @law_pa X⟩
theorem seven_no {K : PySem.W.Frag} {H : Hp} {q1 q2 q3 q4 : Addr} (h1 : H q1 = some (.lst [])) (h2 : H q2 = some (.tup [.str goT])) (h3 : H q3 = some (.lst [.str goT])) (h4 : H q4 = some (.dT [])) :
    ∀ (j : Nat) (y : V), ([.non, .int 5, .ref q1, .bl true, .ref q2, .ref q3, .ref q4] : List V)[j]? = some y → NoRowV K H y := by
  intro j y h
  rcases j with _ | _ | _ | _ | _ | _ | _ | j
  · cases h; exact .other _ "NoneType" .non (by kernel_rfl)
  · cases h; exact .other _ "int" (.int _) (by kernel_rfl)
  · cases h; exact .other _ "list" (.lst h1) (by kernel_rfl)
  · cases h; exact .other _ "bool" (.bl _) (by kernel_rfl)
  · cases h; exact .other _ "tuple" (.tup h2) (by kernel_rfl)
  · cases h; exact .other _ "list" (.lst h3) (by kernel_rfl)
  · cases h; exact .other _ "dict" (.dT h4) (by kernel_rfl)
  · simp at h
theorem ok_law {P : Program} {w : World} {K : PySem.W.Frag} {mg : Str → Option Value} {base : Heap} {A : Adr} (T : Txt K mg A) : FnOk P w K mg base (CXE P w) 10 A.f_law A.d_law ["_law_script"] (spLaw K) := by
  have G_law_cell_at := ok_law_cell_at (P := P) (w := w) (base := base) T
  have G_law_number := ok_law_number (P := P) (w := w) (base := base) T
  have G_law_refused := ok_law_refused (P := P) (w := w) (base := base) T
  have G_law_row := ok_law_row (P := P) (w := w) (base := base) T
  have G_law_same := ok_law_same (P := P) (w := w) (base := base) T
  have G_law_spoilt := ok_law_spoilt (P := P) (w := w) (base := base) T
  have G_law_spoilt_word := ok_law_spoilt_word (P := P) (w := w) (base := base) T
  have G_row_of := okG_row_of (P := P) (w := w) (base := base) T
  refine T.F_law.okN sc_law (fun vs H Q E h => ?_) (fun cdv Ar outer s H vs Q E hr h => ?_)
  · obtain ⟨a, ns, rfl, hS, hlen, k⟩ := h
    rfl
  · obtain ⟨a, ns, rfl, hS, hlen, k⟩ := h
    obtain ⟨l7, q1, q2, q3, q4, q5, q6, hb, hpa⟩ := law_pack
    rw [hb]
    refine ⟨_, (pss_cons (ps_if (pt_not (pt_val (pe_call G_law_refused (hr.mono (by decide)) (by rfl) T.m_law_refused T.F_law_refused.kp T.bb_law_refused .nil passE0 (pa_cons (pe_ix ix_lst (pe_lstS (hpa _)) (pe_op op_mod (pe_call G_law_cell_at (hr.mono (by decide)) (by rfl) T.m_law_cell_at T.F_law_cell_at.kp T.bb_law_cell_at .nil passE0 (pa_cons (pv 0) (pa_cons pe_int pa_nil))) pe_int) (fun _ _ => rfl)) pa_nil)))) (pss_one (ps_ret pe_bl)) pss_nil)
      (pss_cons (ps_for PassesOwn.never rfl (pi_enum K (by rfl) T.b_enumerate (pa_cons (pe_slice (sl_listK K) (pv 0) (po_some pe_int) (po_some pe_int)) pa_nil)) (pg_tupK (n := 2) K rfl (pgs_cons (pg_name (i := 1) sc_law.nd rfl (Or.inl rfl)) (pgs_cons (pg_name (i := 2) sc_law.nd rfl (Or.inl rfl)) pgs_nil))) (pss_cons (ps_set (i := 3) sc_law.nd rfl (Or.inl rfl) (pe_call G_law_number (hr.mono (by decide)) (by rfl) T.m_law_number T.F_law_number.kp T.bb_law_number .nil passE0 (pa_cons (pe_op op_fdivL (pv 2) pe_int) (pa_cons (pv 1) pa_nil))))
      (pss_cons (ps_set (i := 4) sc_law.nd rfl (Or.inl rfl) (pe_call G_law_row (hr.mono (by decide)) (by rfl) T.m_law_row T.F_law_row.kp T.bb_law_row .nil passE0 (pa_cons (pv 2) (pa_cons (pv 3) pa_nil))))
      (pss_one (ps_if (pt_cmpR op_eq (pe_op op_mod (pe_op op_fdivL (pv 3) pe_int) pe_int) pe_int (nomark _)) (pss_cons (ps_set (i := 5) sc_law.nd rfl (Or.inl rfl) (pe_call G_law_spoilt (hr.mono (by decide)) (by rfl) T.m_law_spoilt T.F_law_spoilt.kp T.bb_law_spoilt .nil passE0 (pa_cons (pe_ix (ix_tupK K) (pv 4) pe_int (fun _ _ => rfl)) (pa_cons (pe_op op_fdivL (pv 3) pe_int) pa_nil))))
      (pss_cons (ps_if (pt_cmpR op_eq (pe_op op_mod (pe_op op_fdivL (pv 3) pe_int) pe_int) pe_int (nomark _)) (pss_one (ps_set (i := 5) sc_law.nd rfl (Or.inl rfl) (pe_call G_law_spoilt_word (hr.mono (by decide)) (by rfl) T.m_law_spoilt_word T.F_law_spoilt_word.kp T.bb_law_spoilt_word .nil passE0 (pa_cons (pe_ix (ix_tupK K) (pv 4) pe_int (fun _ _ => rfl)) (pa_cons (pe_op op_fdivL (pv 3) pe_int) pa_nil))))) pss_nil)
      (pss_one (ps_if (pt_not (pt_val (pe_call G_law_refused (hr.mono (by decide)) (by rfl) T.m_law_refused T.F_law_refused.kp T.bb_law_refused .nil passE0 (pa_cons (pv 5) pa_nil)))) (pss_one (ps_ret pe_bl)) pss_nil)))) (pss_cons (ps_set (i := 6) sc_law.nd rfl (Or.inl rfl) (pe_call G_row_of (hr.mono (by decide)) (by rfl) T.m_row_of T.F_row_of.kp T.bb_row_of .nil passE0 (pa_cons (pe_ix (ix_tupK K) (pv 4) pe_int (fun _ _ => rfl)) pa_nil)))
      (pss_cons (ps_if (pt_not (pt_val (pe_call G_law_same (hr.mono (by decide)) (by rfl) T.m_law_same T.F_law_same.kp T.bb_law_same .nil passE0 (pa_cons (pv 6) (pa_cons (pv 4) pa_nil))))) (pss_one (ps_ret pe_bl)) pss_nil)
      (pss_cons (ps_expr (pe_bmK K PySem.F.plainAttrs_list PySem.F.slot_list_append PySem.F.type_list_append mt_append (pe_ix (ix_tupK K) (pv 6) pe_int (fun _ _ => rfl)) (pa_cons pe_int pa_nil)))
      (pss_one (ps_if (pt_not (pt_val (pe_call G_law_same (hr.mono (by decide)) (by rfl) T.m_law_same T.F_law_same.kp T.bb_law_same .nil passE0 (pa_cons (pe_call G_row_of (hr.mono (by decide)) (by rfl) T.m_row_of T.F_row_of.kp T.bb_row_of .nil passE0 (pa_cons (pe_ix (ix_tupK K) (pv 4) pe_int (fun _ _ => rfl)) pa_nil)) (pa_cons (pv 4) pa_nil))))) (pss_one (ps_ret pe_bl)) pss_nil))))))))))
      (pss_one (ps_ret pe_bl)))), ?_⟩
    refine seq_cut (fun σ' H' => σ' = [some (.ref a), none, none, none, none, none, none] ∧ Same H H') (fun N hN => ?_) ?_
    · refine ⟨by decide, fun A1 h1 => ?_⟩
      have s1 := Same.new (o := HO.lst []) h1
      have f1 : (upd H A1 (HO.lst [])) A1 = some (HO.lst []) := upd_same
      generalize upd H A1 (HO.lst []) = G1 at s1 f1 ⊢
      refine ⟨(by show 1 ≤ 1000; decide), fun A2 h2 => ?_⟩
      have s2 := Same.new (o := HO.tup [V.str goT]) h2
      have f2 : (upd G1 A2 (HO.tup [V.str goT])) A2 = some (HO.tup [V.str goT]) := upd_same
      generalize upd G1 A2 (HO.tup [V.str goT]) = G2 at s2 f2 ⊢
      refine ⟨(by show 1 ≤ 1000; decide), fun A3 h3 => ?_⟩
      have s3 := Same.new (o := HO.lst [V.str goT]) h3
      have f3 : (upd G2 A3 (HO.lst [V.str goT])) A3 = some (HO.lst [V.str goT]) := upd_same
      generalize upd G2 A3 (HO.lst [V.str goT]) = G3 at s3 f3 ⊢
      intro A4 h4
      have s4 := Same.new (o := HO.dT []) h4
      have f4 : (upd G3 A4 (HO.dT [])) A4 = some (HO.dT []) := upd_same
      generalize upd G3 A4 (HO.dT []) = G4 at s4 f4 ⊢
      refine ⟨(by show 7 ≤ 1000; decide), fun A5 h5 => ?_⟩
      generalize hxs : ([.non, .int 5, .ref A1, .bl true, .ref A2, .ref A3, .ref A4] : List V) = xs
      have hxl : xs.length = 7 := by rw [← hxs]; rfl
      have s5 := Same.new (o := HO.lst xs) h5
      have f5 : (upd G4 A5 (HO.lst xs)) A5 = some (HO.lst xs) := upd_same
      generalize upd G4 A5 (HO.lst xs) = G5 at s5 f5 ⊢
      have sA := (((s1.trans s2).trans s3).trans s4).trans s5
      refine ⟨_, rfl, a, ns, 0, rfl, sA.seq hS, by decide, fun v => ?_⟩
      have m0 := Int.emod_nonneg v (show (7 : Int) ≠ 0 by decide)
      have m1 := Int.emod_lt_of_pos v (show (0 : Int) < 7 by decide)
      obtain ⟨y, e2⟩ : ∃ y, xs[(v % 7).toNat]? = some y := ⟨_, List.getElem?_eq_getElem (by rw [hxl]; omega)⟩
      have hy := atI_nat e2
      rw [Int.toNat_of_nonneg m0] at hy
      rw [← hxs] at e2
      have hno := seven_no (K := K) (s5 _ _ (s4 _ _ (s3 _ _ (s2 _ _ f1)))) (s5 _ _ (s4 _ _ (s3 _ _ f2))) (s5 _ _ (s4 _ _ f3)) (s5 _ _ f4) _ y e2
      exact ⟨_, _, rfl, rfl, (by show (0 : Int) < 7; decide), A5, _, _, _, rfl, rfl, f5, hy, y, rfl, hno, fun G6 s6 => ⟨_, rfl, iteF (hN _ _ ⟨rfl, sA.trans s6⟩)⟩⟩
    rintro σ1 H1 ⟨rfl, s1⟩
    have hS1 := s1.seq hS
    refine seq_cut (fun _ _ => True) (fun N hN => ?_) (fun _ H' _ => k H')
    refine ⟨_, rfl, 1, rfl, 64, rfl, a, _, rfl, hS1, fun q hq => ?_⟩
    have hcl : (cutV (ns.map V.int) (some 1) (some 64)).length ≤ 63 := by
      have : (cutV (ns.map V.int) (some 1) (some 64)).length ≤ (ns.map V.int).length := by
        unfold cutV
        rw [List.length_take, List.length_drop]
        omega
      rw [List.length_map] at this
      omega
    have hci : ∀ v ∈ cutV (ns.map V.int) (some 1) (some 64), ∃ c : Int, v = .int c := fun v hv => by
      obtain ⟨c, _, e⟩ := List.mem_map.mp (cut_mem hv)
      exact ⟨c, e.symm⟩
    generalize cutV (ns.map V.int) (some 1) (some 64) = xs at hcl hci ⊢
    have sq := Same.new (o := HO.lst xs) hq
    have fq : (upd H1 q (HO.lst xs)) q = some (HO.lst xs) := upd_same
    generalize upd H1 q (HO.lst xs) = H2 at sq fq ⊢
    refine ⟨q, _, rfl, SqL.of fq, ?_⟩
    refine for_enum (K := K) (xs := xs) (fun i σ' G => ∃ v1 v2 v3 v4 v5 v6, σ' = [some (.ref a), v1, v2, v3, v4, v5, v6] ∧ Same H2 G) ⟨_, _, _, _, _, _, rfl, Same.refl _⟩ ?_ ?_ (fun σ' G _ => hN _ _ trivial)
    · rintro i σ' G _ ⟨_, _, _, _, _, _, _, sm⟩
      exact SqL.of (sm _ _ fq)
    rintro i v t σ' G hv ⟨v1, v2, v3, v4, v5, v6, rfl, sm⟩ ht
    have hil : i < 63 := by have := (List.getElem?_eq_some_iff.mp hv).1; omega
    obtain ⟨c, rfl⟩ := hci v (List.mem_of_getElem? hv)
    have st := Same.new (o := HO.tup [V.int i, V.int c]) ht
    refine ⟨t, _, rfl, SqT.of upd_same, rfl, ?_⟩
    refine ⟨_, _, rfl, _, _, rfl, rfl, ?_⟩
    have sm0 := sm.trans st
    generalize upd G t (HO.tup [V.int i, V.int c]) = G0 at sm0 ⊢
    refine seq_cut (fun σ' G' => ∃ m : Int, σ' = [some (.ref a), some (.int i), some (.int c), some (.int m), v4, v5, v6] ∧ G' = G0 ∧ 0 ≤ m) (fun N2 hN2 => ?_) ?_
    · exact ⟨_, rfl, _, _, rfl, rfl, ⟨by decide, by decide⟩, _, rfl, _, i, rfl, hil, fun m m0 _ => hN2 _ _ ⟨m, rfl, rfl, m0⟩⟩
    rintro σ2 G1 ⟨m, rfl, rfl, m0⟩
    refine seq_cut (fun σ' G' => ∃ p x h n w os r f R, σ' = [some (.ref a), some (.int i), some (.int c), some (.int m), some (.ref p), v5, v6] ∧ Same H2 G' ∧ RowIs x h n w os r f ∧ G' p = some (.tup [.str x, .str h, .int n, .str w, .ref R]) ∧ G' R = some (.lst os)) (fun N2 hN2 => ?_) ?_
    · exact ⟨_, rfl, _, rfl, c, m, rfl, m0, fun p x h n w os r f R G2 hi s2 hp hR => hN2 _ _ ⟨p, x, h, n, w, os, r, f, R, rfl, sm0.trans s2, hi, hp, hR⟩⟩
    rintro σ3 G2 ⟨p, x, h, n, w, os, r, f, R, rfl, s2, hi, hp, hR⟩
    refine ⟨_, rfl, _, _, rfl, rfl, ⟨by decide, by decide⟩, _, _, rfl, rfl, (by show (0 : Int) < 4; decide), rfl, _, rfl, ?_⟩
    refine ite2 (fun _ => ?_) (fun _ => ?_)
    · refine seq_cut (fun σ' G' => ∃ z, σ' = [some (.ref a), some (.int i), some (.int c), some (.int m), some (.ref p), some (.str z), v6] ∧ Same G2 G' ∧ NoT z) (fun N2 hN2 => ?_) ?_
      · exact ⟨_, rfl, p, _, _, _, rfl, rfl, SqT.of hp, atI_0 _ _, _, rfl, _, _, rfl, rfl, ⟨by decide, by decide⟩, x, h, n, w, os, r, f, _, rfl, hi, fun z G3 s3 hz => hN2 _ _ ⟨z, rfl, s3, hz⟩⟩
      rintro σ4 G3 ⟨z, rfl, s3, hz⟩
      have hp3 := s3 _ _ hp
      refine seq_cut (fun σ' G' => ∃ z, σ' = [some (.ref a), some (.int i), some (.int c), some (.int m), some (.ref p), some (.str z), v6] ∧ Same G2 G' ∧ NoT z) (fun N2 hN2 => ?_) ?_
      · refine ⟨_, rfl, _, _, rfl, rfl, ⟨by decide, by decide⟩, _, _, rfl, rfl, (by show (0 : Int) < 2; decide), rfl, _, rfl, ?_⟩
        refine ite2 (fun _ => ?_) (fun _ => hN2 _ _ ⟨z, rfl, s3, hz⟩)
        exact ⟨_, rfl, p, _, _, _, rfl, rfl, SqT.of hp3, atI_0 _ _, _, rfl, _, _, rfl, rfl, ⟨by decide, by decide⟩, x, h, n, w, os, r, f, _, rfl, hi, fun z G4 s4 hz => hN2 _ _ ⟨z, rfl, s3.trans s4, hz⟩⟩
      rintro σ5 G4 ⟨z, rfl, s4, hz⟩
      exact ⟨_, rfl, _, rfl, hz.v, fun G5 s5 => ⟨_, rfl, iteF ⟨_, _, _, _, _, _, rfl, s2.trans (s4.trans s5)⟩⟩⟩
    · have hlx := hi.wds.len
      have hwl : ∀ y ∈ Txt.split x blankT, y.length ≤ 100 := by
        rw [hi.split]
        exact fun y hy => Nat.le_trans (hi.wd y hy).2 (by decide)
      have hok : RowOk (Txt.split x blankT) h n w os := by rw [hi.split]; exact hi.good.ok
      refine seq_cut (fun σ' G' => ∃ o F, σ' = [some (.ref a), some (.int i), some (.int c), some (.int m), some (.ref p), v5, some (.ref o)] ∧ Same G2 G' ∧ G2 F = none ∧ G' o = some (.tup [.str h, .int n, .str w, .ref F]) ∧ G' F = some (.lst os)) (fun N2 hN2 => ?_) ?_
      · exact ⟨_, rfl, p, _, _, _, rfl, rfl, SqT.of hp, atI_0 _ _, x, h, w, n, os, rfl, by omega, hwl, hok, fun o F G3 nF s3 ho hF => hN2 _ _ ⟨o, F, rfl, s3, nF, ho, hF⟩⟩
      rintro σ4 G3 ⟨o, F, rfl, s3, nF, ho, hF⟩
      refine seq_cut (fun σ' G' => σ' = [some (.ref a), some (.int i), some (.int c), some (.int m), some (.ref p), v5, some (.ref o)] ∧ Same G3 G') (fun N2 hN2 => ?_) ?_
      · exact ⟨_, rfl, _, rfl, o, p, F, R, x, h, w, n, os, rfl, ho, s3 _ _ hp, hF, s3 _ _ hR, hi.plain, fun G4 s4 => ⟨_, rfl, iteF (hN2 _ _ ⟨rfl, s4⟩)⟩⟩
      rintro σ5 G4 ⟨rfl, s4⟩
      have ho4 := s4 _ _ ho
      have hF4 := s4 _ _ hF
      have los : os.length ≤ 100 := by
        have := hi.few
        have := go_vs hi.good.go rfl
        rw [List.length_cons] at this
        omega
      refine seq_cut (fun σ' G' => σ' = [some (.ref a), some (.int i), some (.int c), some (.int m), some (.ref p), v5, some (.ref o)] ∧ Same G2 G') (fun N2 hN2 => ?_) ?_
      · exact ⟨_, rfl, o, _, _, _, rfl, rfl, SqT.of ho4, atI_3 _ _ _ _ _, .inl ⟨rfl, _, SqL.of hF4⟩, F, _, _, rfl, rfl, hF4, small1000 (by omega), hN2 _ _ ⟨rfl, (s3.trans s4).upd nF⟩⟩
      rintro σ6 G5 ⟨rfl, s5⟩
      have hp5 := s5 _ _ hp
      refine ⟨_, rfl, p, _, _, _, rfl, rfl, SqT.of hp5, atI_0 _ _, x, h, w, n, os, rfl, by omega, hwl, hok, fun o2 F2 G6 nF2 s6 ho2 hF2 => ?_⟩
      exact ⟨_, rfl, o2, p, F2, R, x, h, w, n, os, rfl, ho2, s6 _ _ hp5, hF2, s6 _ _ (s5 _ _ hR), hi.plain, fun G7 s7 => ⟨_, rfl, iteF ⟨_, _, _, _, _, _, rfl, s2.trans (s5.trans (s6.trans s7))⟩⟩⟩
theorem all_mk {l : PySem.W.OpenLaw} {w : World} {K : PySem.W.Frag} {h : Heap} {mg : Str → Option Value} (X : K.In h) (G : h.Ns mainGlobals mg) {C_NoRow : Addr} {C_NoName : Addr} {C_Late : Addr} {C_NoCue : Addr} {C_NoWorth : Addr} {C_NoSlot : Addr} {C_NoTime : Addr} {C_NoText : Addr} {C_LampError : Addr} {fa : Addr} {f0 : Addr} {od0 an0 : Option Addr} {sl0 : Array (Option Value)} {oc0 kV0 dc0 pm0 cd0 ct0 : Value} {f1 : Addr} {od1 an1 : Option Addr} {sl1 : Array (Option Value)} {oc1 kV1 dc1 pm1 cd1 ct1 : Value} {f2 : Addr} {od2 an2 : Option Addr} {sl2 : Array (Option Value)} {oc2 kV2 dc2 pm2 cd2 ct2 : Value} {f3 : Addr} {od3 an3 : Option Addr} {sl3 : Array (Option Value)} {oc3 kV3 dc3 pm3 cd3 ct3 : Value} {f4 : Addr} {od4 an4 : Option Addr} {sl4 : Array (Option Value)} {oc4 kV4 dc4 pm4 cd4 ct4 : Value} {T4 : Addr} {tc4 : Value} {td4 : Option Addr} {tn4 : Nat} {tsl4 : Array (Option Value)} {tk4_0 : Tok} {f5 : Addr} {od5 an5 : Option Addr} {sl5 : Array (Option Value)} {oc5 kV5 dc5 pm5 cd5 ct5 : Value} {f6 : Addr} {od6 an6 : Option Addr} {sl6 : Array (Option Value)} {oc6 kV6 dc6 pm6 cd6 ct6 : Value} {f7 : Addr} {od7 an7 : Option Addr} {sl7 : Array (Option Value)} {oc7 kV7 dc7 pm7 cd7 ct7 : Value} {f8 : Addr} {od8 an8 : Option Addr} {sl8 : Array (Option Value)} {oc8 kV8 dc8 pm8 cd8 ct8 : Value} {f9 : Addr} {od9 an9 : Option Addr} {sl9 : Array (Option Value)} {oc9 kV9 dc9 pm9 cd9 ct9 : Value} {f10 : Addr} {od10 an10 : Option Addr} {sl10 : Array (Option Value)} {oc10 kV10 dc10 pm10 cd10 ct10 : Value} {f11 : Addr} {od11 an11 : Option Addr} {sl11 : Array (Option Value)} {oc11 kV11 dc11 pm11 cd11 ct11 : Value} {f12 : Addr} {od12 an12 : Option Addr} {sl12 : Array (Option Value)} {oc12 kV12 dc12 pm12 cd12 ct12 : Value} {f13 : Addr} {od13 an13 : Option Addr} {sl13 : Array (Option Value)} {oc13 kV13 dc13 pm13 cd13 ct13 : Value} {f14 : Addr} {od14 an14 : Option Addr} {sl14 : Array (Option Value)} {oc14 kV14 dc14 pm14 cd14 ct14 : Value} {f15 : Addr} {od15 an15 : Option Addr} {sl15 : Array (Option Value)} {oc15 kV15 dc15 pm15 cd15 ct15 : Value} {f16 : Addr} {od16 an16 : Option Addr} {sl16 : Array (Option Value)} {oc16 kV16 dc16 pm16 cd16 ct16 : Value} {f17 : Addr} {od17 an17 : Option Addr} {sl17 : Array (Option Value)} {oc17 kV17 dc17 pm17 cd17 ct17 : Value} {f18 : Addr} {od18 an18 : Option Addr} {sl18 : Array (Option Value)} {oc18 kV18 dc18 pm18 cd18 ct18 : Value} {f19 : Addr} {od19 an19 : Option Addr} {sl19 : Array (Option Value)} {oc19 kV19 dc19 pm19 cd19 ct19 : Value} {f20 : Addr} {od20 an20 : Option Addr} {sl20 : Array (Option Value)} {oc20 kV20 dc20 pm20 cd20 ct20 : Value} {f21 : Addr} {od21 an21 : Option Addr} {sl21 : Array (Option Value)} {oc21 kV21 dc21 pm21 cd21 ct21 : Value} {f22 : Addr} {od22 an22 : Option Addr} {sl22 : Array (Option Value)} {oc22 kV22 dc22 pm22 cd22 ct22 : Value} {f23 : Addr} {od23 an23 : Option Addr} {sl23 : Array (Option Value)} {oc23 kV23 dc23 pm23 cd23 ct23 : Value} {f24 : Addr} {od24 an24 : Option Addr} {sl24 : Array (Option Value)} {oc24 kV24 dc24 pm24 cd24 ct24 : Value} {f25 : Addr} {od25 an25 : Option Addr} {sl25 : Array (Option Value)} {oc25 kV25 dc25 pm25 cd25 ct25 : Value} {f26 : Addr} {od26 an26 : Option Addr} {sl26 : Array (Option Value)} {oc26 kV26 dc26 pm26 cd26 ct26 : Value} {nm_LampError qn_LampError : _} {N_LampError : _} {bs_LampError hx_LampError sn_LampError sub_LampError ab_LampError col_LampError dd_LampError k0_LampError k1_LampError k2_LampError k3_LampError k5_LampError : _} {nm_NoText qn_NoText : _} {N_NoText : _} {bs_NoText hx_NoText sn_NoText sub_NoText ab_NoText col_NoText dd_NoText k0_NoText k1_NoText k2_NoText k3_NoText k5_NoText : _} {tkc_MOST_TICKS : Tok} {tkc_TICKS_A_SECOND : Tok} {tkc_PLACES : Tok} {tkc_MOST_FIGURES : Tok} {tkc_FIGURES : Tok} {tkc_LETTERS : Tok} {tkc_MOST_LETTERS : Tok} {tkc_MOST_WORTH : Tok} {tkc_MOST_NUMBER : Tok} {tkc_MOST_LEVEL : Tok} {tkc_MOST_TICK : Tok} {S_SIDES : Addr} {so_SIDES : Option Addr} {sn_SIDES : Nat} {ss_SIDES : Array (Option Value)} {sk_SIDES_0 sk_SIDES_1 sk_SIDES_2 sk_SIDES_3 sk_SIDES_4 sk_SIDES_5 : Tok} {S_DEEDS : Addr} {so_DEEDS : Option Addr} {sn_DEEDS : Nat} {ss_DEEDS : Array (Option Value)} {sk_DEEDS_0 sk_DEEDS_1 sk_DEEDS_2 sk_DEEDS_3 sk_DEEDS_4 sk_DEEDS_5 sk_DEEDS_6 sk_DEEDS_7 sk_DEEDS_8 sk_DEEDS_9 sk_DEEDS_10 sk_DEEDS_11 sk_DEEDS_12 sk_DEEDS_13 sk_DEEDS_14 sk_DEEDS_15 sk_DEEDS_16 sk_DEEDS_17 : Tok} (hfa : mg "law" = some (.ref fa))
    (aC_LampError : PySem.W.nsIn K mainGlobals "LampError" = some (some (.ref C_LampError)))
    (aC_NoText : PySem.W.nsIn K mainGlobals "NoText" = some (some (.ref C_NoText)))
    (aC_NoTime : PySem.W.nsIn K mainGlobals "NoTime" = some (some (.ref C_NoTime)))
    (aC_NoSlot : PySem.W.nsIn K mainGlobals "NoSlot" = some (some (.ref C_NoSlot)))
    (aC_NoWorth : PySem.W.nsIn K mainGlobals "NoWorth" = some (some (.ref C_NoWorth)))
    (aC_NoCue : PySem.W.nsIn K mainGlobals "NoCue" = some (some (.ref C_NoCue)))
    (aC_Late : PySem.W.nsIn K mainGlobals "Late" = some (some (.ref C_Late)))
    (aC_NoName : PySem.W.nsIn K mainGlobals "NoName" = some (some (.ref C_NoName)))
    (aC_NoRow : PySem.W.nsIn K mainGlobals "NoRow" = some (some (.ref C_NoRow)))
    (a0 : PySem.W.nsIn K mainGlobals "is_whole" = some (some (.ref f0)))
    (l0 : K.lookup f0 = some ⟨oc0, od0, .func (PySem.W.fnOf "is_whole" "is_whole" (defArgs s_is_whole) (defBody s_is_whole) (defScope s_is_whole) .none kV0 dc0 pm0 an0 cd0 ct0), sl0⟩)
    (c0 : PySem.W.codeIn K cd0 "is_whole" = true)
    (k0 : PySem.W.keepIn K (.ref f0) = true)
    (a1 : PySem.W.nsIn K mainGlobals "is_time" = some (some (.ref f1)))
    (l1 : K.lookup f1 = some ⟨oc1, od1, .func (PySem.W.fnOf "is_time" "is_time" (defArgs s_is_time) (defBody s_is_time) (defScope s_is_time) .none kV1 dc1 pm1 an1 cd1 ct1), sl1⟩)
    (c1 : PySem.W.codeIn K cd1 "is_time" = true)
    (k1 : PySem.W.keepIn K (.ref f1) = true)
    (a2 : PySem.W.nsIn K mainGlobals "time_text" = some (some (.ref f2)))
    (l2 : K.lookup f2 = some ⟨oc2, od2, .func (PySem.W.fnOf "time_text" "time_text" (defArgs s_time_text) (defBody s_time_text) (defScope s_time_text) .none kV2 dc2 pm2 an2 cd2 ct2), sl2⟩)
    (c2 : PySem.W.codeIn K cd2 "time_text" = true)
    (k2 : PySem.W.keepIn K (.ref f2) = true)
    (a3 : PySem.W.nsIn K mainGlobals "loosely_read" = some (some (.ref f3)))
    (l3 : K.lookup f3 = some ⟨oc3, od3, .func (PySem.W.fnOf "loosely_read" "loosely_read" (defArgs s_loosely_read) (defBody s_loosely_read) (defScope s_loosely_read) .none kV3 dc3 pm3 an3 cd3 ct3), sl3⟩)
    (c3 : PySem.W.codeIn K cd3 "loosely_read" = true)
    (k3 : PySem.W.keepIn K (.ref f3) = true)
    (a4 : PySem.W.findIn K (.ref C_NoText) "__init__" = some (some (.ref f4)))
    (i4 : PySem.W.isFn K (.ref f4) = true)
    (l4 : K.lookup f4 = some ⟨oc4, od4, .func (PySem.W.fnOf "__init__" "NoText.__init__" (defArgs s_NoText_init) (defBody s_NoText_init) (defScope s_NoText_init) (.ref T4) kV4 dc4 pm4 an4 cd4 ct4), sl4⟩)
    (c4 : PySem.W.codeIn K cd4 "NoText.__init__" = true)
    (k4 : PySem.W.keepIn K (.ref f4) = true)
    (t4 : K.lookup T4 = some ⟨tc4, td4, .seq ([.int 0 tk4_0] : List Value).toArray tn4, tsl4⟩)
    (a5 : PySem.W.nsIn K mainGlobals "time_of" = some (some (.ref f5)))
    (l5 : K.lookup f5 = some ⟨oc5, od5, .func (PySem.W.fnOf "time_of" "time_of" (defArgs s_time_of) (defBody s_time_of) (defScope s_time_of) .none kV5 dc5 pm5 an5 cd5 ct5), sl5⟩)
    (c5 : PySem.W.codeIn K cd5 "time_of" = true)
    (k5 : PySem.W.keepIn K (.ref f5) = true)
    (a6 : PySem.W.nsIn K mainGlobals "is_lamp" = some (some (.ref f6)))
    (l6 : K.lookup f6 = some ⟨oc6, od6, .func (PySem.W.fnOf "is_lamp" "is_lamp" (defArgs s_is_lamp) (defBody s_is_lamp) (defScope s_is_lamp) .none kV6 dc6 pm6 an6 cd6 ct6), sl6⟩)
    (c6 : PySem.W.codeIn K cd6 "is_lamp" = true)
    (k6 : PySem.W.keepIn K (.ref f6) = true)
    (a7 : PySem.W.nsIn K mainGlobals "is_side" = some (some (.ref f7)))
    (l7 : K.lookup f7 = some ⟨oc7, od7, .func (PySem.W.fnOf "is_side" "is_side" (defArgs s_is_side) (defBody s_is_side) (defScope s_is_side) .none kV7 dc7 pm7 an7 cd7 ct7), sl7⟩)
    (c7 : PySem.W.codeIn K cd7 "is_side" = true)
    (k7 : PySem.W.keepIn K (.ref f7) = true)
    (a8 : PySem.W.nsIn K mainGlobals "whole_of" = some (some (.ref f8)))
    (l8 : K.lookup f8 = some ⟨oc8, od8, .func (PySem.W.fnOf "whole_of" "whole_of" (defArgs s_whole_of) (defBody s_whole_of) (defScope s_whole_of) .none kV8 dc8 pm8 an8 cd8 ct8), sl8⟩)
    (c8 : PySem.W.codeIn K cd8 "whole_of" = true)
    (k8 : PySem.W.keepIn K (.ref f8) = true)
    (a9 : PySem.W.nsIn K mainGlobals "ticks_of" = some (some (.ref f9)))
    (l9 : K.lookup f9 = some ⟨oc9, od9, .func (PySem.W.fnOf "ticks_of" "ticks_of" (defArgs s_ticks_of) (defBody s_ticks_of) (defScope s_ticks_of) .none kV9 dc9 pm9 an9 cd9 ct9), sl9⟩)
    (c9 : PySem.W.codeIn K cd9 "ticks_of" = true)
    (k9 : PySem.W.keepIn K (.ref f9) = true)
    (a10 : PySem.W.nsIn K mainGlobals "thing_of" = some (some (.ref f10)))
    (l10 : K.lookup f10 = some ⟨oc10, od10, .func (PySem.W.fnOf "thing_of" "thing_of" (defArgs s_thing_of) (defBody s_thing_of) (defScope s_thing_of) .none kV10 dc10 pm10 an10 cd10 ct10), sl10⟩)
    (c10 : PySem.W.codeIn K cd10 "thing_of" = true)
    (k10 : PySem.W.keepIn K (.ref f10) = true)
    (a11 : PySem.W.nsIn K mainGlobals "things_by" = some (some (.ref f11)))
    (l11 : K.lookup f11 = some ⟨oc11, od11, .func (PySem.W.fnOf "things_by" "things_by" (defArgs s_things_by) (defBody s_things_by) (defScope s_things_by) .none kV11 dc11 pm11 an11 cd11 ct11), sl11⟩)
    (c11 : PySem.W.codeIn K cd11 "things_by" = true)
    (k11 : PySem.W.keepIn K (.ref f11) = true)
    (a12 : PySem.W.nsIn K mainGlobals "row_of" = some (some (.ref f12)))
    (l12 : K.lookup f12 = some ⟨oc12, od12, .func (PySem.W.fnOf "row_of" "row_of" (defArgs s_row_of) (defBody s_row_of) (defScope s_row_of) .none kV12 dc12 pm12 an12 cd12 ct12), sl12⟩)
    (c12 : PySem.W.codeIn K cd12 "row_of" = true)
    (k12 : PySem.W.keepIn K (.ref f12) = true)
    (a13 : PySem.W.nsIn K mainGlobals "_law_cell_at" = some (some (.ref f13)))
    (l13 : K.lookup f13 = some ⟨oc13, od13, .func (PySem.W.fnOf "_law_cell_at" "_law_cell_at" (defArgs s_law_cell_at) (defBody s_law_cell_at) (defScope s_law_cell_at) .none kV13 dc13 pm13 an13 cd13 ct13), sl13⟩)
    (c13 : PySem.W.codeIn K cd13 "_law_cell_at" = true)
    (k13 : PySem.W.keepIn K (.ref f13) = true)
    (a14 : PySem.W.nsIn K mainGlobals "_law_number" = some (some (.ref f14)))
    (l14 : K.lookup f14 = some ⟨oc14, od14, .func (PySem.W.fnOf "_law_number" "_law_number" (defArgs s_law_number) (defBody s_law_number) (defScope s_law_number) .none kV14 dc14 pm14 an14 cd14 ct14), sl14⟩)
    (c14 : PySem.W.codeIn K cd14 "_law_number" = true)
    (k14 : PySem.W.keepIn K (.ref f14) = true)
    (a15 : PySem.W.nsIn K mainGlobals "_law_whole" = some (some (.ref f15)))
    (l15 : K.lookup f15 = some ⟨oc15, od15, .func (PySem.W.fnOf "_law_whole" "_law_whole" (defArgs s_law_whole) (defBody s_law_whole) (defScope s_law_whole) .none kV15 dc15 pm15 an15 cd15 ct15), sl15⟩)
    (c15 : PySem.W.codeIn K cd15 "_law_whole" = true)
    (k15 : PySem.W.keepIn K (.ref f15) = true)
    (a16 : PySem.W.nsIn K mainGlobals "_law_name" = some (some (.ref f16)))
    (l16 : K.lookup f16 = some ⟨oc16, od16, .func (PySem.W.fnOf "_law_name" "_law_name" (defArgs s_law_name) (defBody s_law_name) (defScope s_law_name) .none kV16 dc16 pm16 an16 cd16 ct16), sl16⟩)
    (c16 : PySem.W.codeIn K cd16 "_law_name" = true)
    (k16 : PySem.W.keepIn K (.ref f16) = true)
    (a17 : PySem.W.nsIn K mainGlobals "_law_ticks" = some (some (.ref f17)))
    (l17 : K.lookup f17 = some ⟨oc17, od17, .func (PySem.W.fnOf "_law_ticks" "_law_ticks" (defArgs s_law_ticks) (defBody s_law_ticks) (defScope s_law_ticks) .none kV17 dc17 pm17 an17 cd17 ct17), sl17⟩)
    (c17 : PySem.W.codeIn K cd17 "_law_ticks" = true)
    (k17 : PySem.W.keepIn K (.ref f17) = true)
    (a18 : PySem.W.nsIn K mainGlobals "_law_time_text" = some (some (.ref f18)))
    (l18 : K.lookup f18 = some ⟨oc18, od18, .func (PySem.W.fnOf "_law_time_text" "_law_time_text" (defArgs s_law_time_text) (defBody s_law_time_text) (defScope s_law_time_text) .none kV18 dc18 pm18 an18 cd18 ct18), sl18⟩)
    (c18 : PySem.W.codeIn K cd18 "_law_time_text" = true)
    (k18 : PySem.W.keepIn K (.ref f18) = true)
    (a19 : PySem.W.nsIn K mainGlobals "_law_refused" = some (some (.ref f19)))
    (l19 : K.lookup f19 = some ⟨oc19, od19, .func (PySem.W.fnOf "_law_refused" "_law_refused" (defArgs s_law_refused) (defBody s_law_refused) (defScope s_law_refused) .none kV19 dc19 pm19 an19 cd19 ct19), sl19⟩)
    (c19 : PySem.W.codeIn K cd19 "_law_refused" = true)
    (k19 : PySem.W.keepIn K (.ref f19) = true)
    (a20 : PySem.W.nsIn K mainGlobals "_law_thing" = some (some (.ref f20)))
    (l20 : K.lookup f20 = some ⟨oc20, od20, .func (PySem.W.fnOf "_law_thing" "_law_thing" (defArgs s_law_thing) (defBody s_law_thing) (defScope s_law_thing) .none kV20 dc20 pm20 an20 cd20 ct20), sl20⟩)
    (c20 : PySem.W.codeIn K cd20 "_law_thing" = true)
    (k20 : PySem.W.keepIn K (.ref f20) = true)
    (a21 : PySem.W.nsIn K mainGlobals "_law_form" = some (some (.ref f21)))
    (l21 : K.lookup f21 = some ⟨oc21, od21, .func (PySem.W.fnOf "_law_form" "_law_form" (defArgs s_law_form) (defBody s_law_form) (defScope s_law_form) .none kV21 dc21 pm21 an21 cd21 ct21), sl21⟩)
    (c21 : PySem.W.codeIn K cd21 "_law_form" = true)
    (k21 : PySem.W.keepIn K (.ref f21) = true)
    (a22 : PySem.W.nsIn K mainGlobals "_law_row" = some (some (.ref f22)))
    (l22 : K.lookup f22 = some ⟨oc22, od22, .func (PySem.W.fnOf "_law_row" "_law_row" (defArgs s_law_row) (defBody s_law_row) (defScope s_law_row) .none kV22 dc22 pm22 an22 cd22 ct22), sl22⟩)
    (c22 : PySem.W.codeIn K cd22 "_law_row" = true)
    (k22 : PySem.W.keepIn K (.ref f22) = true)
    (a23 : PySem.W.nsIn K mainGlobals "_law_spoilt_word" = some (some (.ref f23)))
    (l23 : K.lookup f23 = some ⟨oc23, od23, .func (PySem.W.fnOf "_law_spoilt_word" "_law_spoilt_word" (defArgs s_law_spoilt_word) (defBody s_law_spoilt_word) (defScope s_law_spoilt_word) .none kV23 dc23 pm23 an23 cd23 ct23), sl23⟩)
    (c23 : PySem.W.codeIn K cd23 "_law_spoilt_word" = true)
    (k23 : PySem.W.keepIn K (.ref f23) = true)
    (a24 : PySem.W.nsIn K mainGlobals "_law_spoilt" = some (some (.ref f24)))
    (l24 : K.lookup f24 = some ⟨oc24, od24, .func (PySem.W.fnOf "_law_spoilt" "_law_spoilt" (defArgs s_law_spoilt) (defBody s_law_spoilt) (defScope s_law_spoilt) .none kV24 dc24 pm24 an24 cd24 ct24), sl24⟩)
    (c24 : PySem.W.codeIn K cd24 "_law_spoilt" = true)
    (k24 : PySem.W.keepIn K (.ref f24) = true)
    (a25 : PySem.W.nsIn K mainGlobals "_law_same" = some (some (.ref f25)))
    (l25 : K.lookup f25 = some ⟨oc25, od25, .func (PySem.W.fnOf "_law_same" "_law_same" (defArgs s_law_same) (defBody s_law_same) (defScope s_law_same) .none kV25 dc25 pm25 an25 cd25 ct25), sl25⟩)
    (c25 : PySem.W.codeIn K cd25 "_law_same" = true)
    (k25 : PySem.W.keepIn K (.ref f25) = true)
    (a26 : PySem.W.nsIn K mainGlobals "law" = some (some (.ref f26)))
    (l26 : K.lookup f26 = some ⟨oc26, od26, .func (PySem.W.fnOf "law" "law" (defArgs s_law) (defBody s_law) (defScope s_law) .none kV26 dc26 pm26 an26 cd26 ct26), sl26⟩)
    (c26 : PySem.W.codeIn K cd26 "law" = true)
    (k26 : PySem.W.keepIn K (.ref f26) = true)
    (xc0_NoText : PySem.W.findIn K (.ref C_NoText) "__getattribute__" = some (some (.builtin "BaseException.__getattribute__")))
    (xc1_NoText : PySem.W.findIn K (.ref C_NoText) "__getattr__" = some none)
    (xc2_NoText : PySem.W.findIn K (.ref C_NoText) "__class__" = some (some (.builtin "object.__class__")))
    (xc3_NoText : PySem.W.mroIn K C_NoText (.type "object") = some true)
    (xc4_NoText : PySem.W.mroIn K C_NoText (.type "BaseException") = some true)
    (xm_NoText : PySem.W.exmOne K (.ref C_NoText) (.ref C_LampError) = some true)
    (xv_NoText : PySem.W.kitOne K (.ref C_NoText) (.type "ValueError") = some true)
    (xe_NoText_NoText : PySem.W.exmOne K (.ref C_NoText) (.ref C_NoText) = some true)
    (xk_NoText_LampError : PySem.W.kitOne K (.ref C_NoText) (.ref C_LampError) = some true)
    (xk_NoText_NoText : PySem.W.kitOne K (.ref C_NoText) (.ref C_NoText) = some true)
    (xk_NoText_NoTime : PySem.W.kitOne K (.ref C_NoText) (.ref C_NoTime) = some false)
    (xk_NoText_NoSlot : PySem.W.kitOne K (.ref C_NoText) (.ref C_NoSlot) = some false)
    (xk_NoText_NoWorth : PySem.W.kitOne K (.ref C_NoText) (.ref C_NoWorth) = some false)
    (xk_NoText_NoCue : PySem.W.kitOne K (.ref C_NoText) (.ref C_NoCue) = some false)
    (xk_NoText_Late : PySem.W.kitOne K (.ref C_NoText) (.ref C_Late) = some false)
    (xk_NoText_NoName : PySem.W.kitOne K (.ref C_NoText) (.ref C_NoName) = some false)
    (xk_NoText_NoRow : PySem.W.kitOne K (.ref C_NoText) (.ref C_NoRow) = some false)
    (x_NoRow : PySem.W.excIn K C_NoRow veMro "ValueError.__new__" = true)
    (xc0_NoRow : PySem.W.findIn K (.ref C_NoRow) "__getattribute__" = some (some (.builtin "BaseException.__getattribute__")))
    (xc1_NoRow : PySem.W.findIn K (.ref C_NoRow) "__getattr__" = some none)
    (xc2_NoRow : PySem.W.findIn K (.ref C_NoRow) "__class__" = some (some (.builtin "object.__class__")))
    (xc3_NoRow : PySem.W.mroIn K C_NoRow (.type "object") = some true)
    (xc4_NoRow : PySem.W.mroIn K C_NoRow (.type "BaseException") = some true)
    (xm_NoRow : PySem.W.exmOne K (.ref C_NoRow) (.ref C_LampError) = some true)
    (xv_NoRow : PySem.W.kitOne K (.ref C_NoRow) (.type "ValueError") = some true)
    (xe_NoRow_NoText : PySem.W.exmOne K (.ref C_NoRow) (.ref C_NoText) = some false)
    (xk_NoRow_LampError : PySem.W.kitOne K (.ref C_NoRow) (.ref C_LampError) = some true)
    (xk_NoRow_NoText : PySem.W.kitOne K (.ref C_NoRow) (.ref C_NoText) = some false)
    (xk_NoRow_NoTime : PySem.W.kitOne K (.ref C_NoRow) (.ref C_NoTime) = some false)
    (xk_NoRow_NoSlot : PySem.W.kitOne K (.ref C_NoRow) (.ref C_NoSlot) = some false)
    (xk_NoRow_NoWorth : PySem.W.kitOne K (.ref C_NoRow) (.ref C_NoWorth) = some false)
    (xk_NoRow_NoCue : PySem.W.kitOne K (.ref C_NoRow) (.ref C_NoCue) = some false)
    (xk_NoRow_Late : PySem.W.kitOne K (.ref C_NoRow) (.ref C_Late) = some false)
    (xk_NoRow_NoName : PySem.W.kitOne K (.ref C_NoRow) (.ref C_NoName) = some false)
    (xk_NoRow_NoRow : PySem.W.kitOne K (.ref C_NoRow) (.ref C_NoRow) = some true)
    (x_LampError : PySem.W.excIn K C_LampError veMro "ValueError.__new__" = true)
    (lx_NoText : K.lookup C_NoText = some (excClassObj nm_NoText qn_NoText C_NoText N_NoText bs_NoText (.ref C_LampError :: veMro) hx_NoText sn_NoText sub_NoText ab_NoText col_NoText dd_NoText k0_NoText k1_NoText k2_NoText k3_NoText k5_NoText "ValueError.__new__"))
    (lx_LampError : K.lookup C_LampError = some (excClassObj nm_LampError qn_LampError C_LampError N_LampError bs_LampError veMro hx_LampError sn_LampError sub_LampError ab_LampError col_LampError dd_LampError k0_LampError k1_LampError k2_LampError k3_LampError k5_LampError "ValueError.__new__"))
    (kp_NoText : PySem.W.keepIn K (.ref C_NoText) = true)
    (sa_NoText : PySem.W.findIn K (.ref C_NoText) "__setattr__" = some (some (.builtin "object.__setattr__")))
    (hd_NoText : PySem.W.hasDictIn K C_NoText = true)
    (nr_NoText_row : PySem.W.findIn K (.ref C_NoText) "row" = some none)
    (u0_LampError : PySem.W.specialIn K (.ref C_LampError) "__getattribute__" = some (some (.builtin "type.__getattribute__")))
    (u1_LampError : PySem.W.readsIn K C_LampError (.type "type") = true)
    (u2_LampError : PySem.W.findCls K (.ref C_LampError) (.type "type") "__init__" = some (.val (.builtin "ValueError.__init__")))
    (xg_get : PySem.W.specialIn K (.builtin "object.__class__") "__get__" = some (some (.builtin "getset_descriptor.__get__")))
    (xg_set : PySem.W.takesIn K (.builtin "object.__class__") = some true)
    (z_isinstance : PySem.W.nsIn K mainGlobals "isinstance" = some none)
    (z_int : PySem.W.nsIn K mainGlobals "int" = some none)
    (z_bool : PySem.W.nsIn K mainGlobals "bool" = some none)
    (z_str : PySem.W.nsIn K mainGlobals "str" = some none)
    (z_tuple : PySem.W.nsIn K mainGlobals "tuple" = some none)
    (z_list : PySem.W.nsIn K mainGlobals "list" = some none)
    (z_len : PySem.W.nsIn K mainGlobals "len" = some none)
    (z_all : PySem.W.nsIn K mainGlobals "all" = some none)
    (z_range : PySem.W.nsIn K mainGlobals "range" = some none)
    (z_enumerate : PySem.W.nsIn K mainGlobals "enumerate" = some none)
    (z_zip : PySem.W.nsIn K mainGlobals "zip" = some none)
    (z_ValueError : PySem.W.nsIn K mainGlobals "ValueError" = some none)
    (gc_MOST_TICKS : PySem.W.nsIn K mainGlobals "MOST_TICKS" = some (some (.int 1000000000 tkc_MOST_TICKS)))
    (gc_TICKS_A_SECOND : PySem.W.nsIn K mainGlobals "TICKS_A_SECOND" = some (some (.int 1000 tkc_TICKS_A_SECOND)))
    (gc_PLACES : PySem.W.nsIn K mainGlobals "PLACES" = some (some (.int 3 tkc_PLACES)))
    (gc_MOST_FIGURES : PySem.W.nsIn K mainGlobals "MOST_FIGURES" = some (some (.int 10 tkc_MOST_FIGURES)))
    (gc_FIGURES : PySem.W.nsIn K mainGlobals "FIGURES" = some (some (.str "0123456789" tkc_FIGURES)))
    (gc_LETTERS : PySem.W.nsIn K mainGlobals "LETTERS" = some (some (.str "abcdefghijklmnopqrstuvwxyz" tkc_LETTERS)))
    (gc_MOST_LETTERS : PySem.W.nsIn K mainGlobals "MOST_LETTERS" = some (some (.int 8 tkc_MOST_LETTERS)))
    (gc_MOST_WORTH : PySem.W.nsIn K mainGlobals "MOST_WORTH" = some (some (.int 1000000000 tkc_MOST_WORTH)))
    (gc_MOST_NUMBER : PySem.W.nsIn K mainGlobals "MOST_NUMBER" = some (some (.int 1000000000 tkc_MOST_NUMBER)))
    (gc_MOST_LEVEL : PySem.W.nsIn K mainGlobals "MOST_LEVEL" = some (some (.int 1000 tkc_MOST_LEVEL)))
    (gc_MOST_TICK : PySem.W.nsIn K mainGlobals "MOST_TICK" = some (some (.int 999999999999 tkc_MOST_TICK)))
    (gs_SIDES : PySem.W.nsIn K mainGlobals "SIDES" = some (some (.ref S_SIDES)))
    (ls_SIDES : K.lookup S_SIDES = some ⟨.type "tuple", so_SIDES, .seq ([.str "blue" sk_SIDES_0, .str "bright" sk_SIDES_1, .str "green" sk_SIDES_2, .str "pan" sk_SIDES_3, .str "red" sk_SIDES_4, .str "tilt" sk_SIDES_5] : List Value).toArray sn_SIDES, ss_SIDES⟩)
    (gs_DEEDS : PySem.W.nsIn K mainGlobals "DEEDS" = some (some (.ref S_DEEDS)))
    (ls_DEEDS : K.lookup S_DEEDS = some ⟨.type "tuple", so_DEEDS, .seq ([.str "go" sk_DEEDS_0, .str "back" sk_DEEDS_1, .str "goto NUMBER" sk_DEEDS_2, .str "stop" sk_DEEDS_3, .str "on" sk_DEEDS_4, .str "put NUMBER TIME TIME TIME" sk_DEEDS_5, .str "put NUMBER TIME TIME TIME follow TIME" sk_DEEDS_6, .str "out NUMBER" sk_DEEDS_7, .str "keep NUMBER" sk_DEEDS_8, .str "tell NUMBER LAMP SIDE WORTH" sk_DEEDS_9, .str "alone NUMBER LAMP SIDE WORTH" sk_DEEDS_10, .str "untell NUMBER LAMP SIDE" sk_DEEDS_11, .str "block NUMBER" sk_DEEDS_12, .str "unblock NUMBER" sk_DEEDS_13, .str "fill NAME LAMP SIDE WORTH" sk_DEEDS_14, .str "move NAME LEVEL" sk_DEEDS_15, .str "down LEVEL" sk_DEEDS_16, .str "spare LAMP" sk_DEEDS_17] : List Value).toArray sn_DEEDS, ss_DEEDS⟩) :
    ∃ fd : FuncData, (∀ (s : Shared) (v : Value), BindsTo s fd ⟨[v], []⟩ [("_law_script", v)]) ∧ ∀ base : Heap, K.In base → base.Ns mainGlobals mg → FnOk l.prog w K mg base (CXE l.prog w) 10 fa fd ["_law_script"] (spLaw K) := by
  have e := hfa.symm.trans (PySem.W.mg_of X G a26)
  cases e
  have F0 := fun_mk (st := s_is_whole) l0 c0 k0
  have bb0 := F0.binds (ps := ["thing"]) fun _ _ _ _ _ _ us hl => match us, hl with | [_], _ => rfl
  have F1 := fun_mk (st := s_is_time) l1 c1 k1
  have bb1 := F1.binds (ps := ["thing"]) fun _ _ _ _ _ _ us hl => match us, hl with | [_], _ => rfl
  have F2 := fun_mk (st := s_time_text) l2 c2 k2
  have bb2 := F2.binds (ps := ["ticks"]) fun _ _ _ _ _ _ us hl => match us, hl with | [_], _ => rfl
  have F3 := fun_mk (st := s_loosely_read) l3 c3 k3
  have bb3 := F3.binds (ps := ["text"]) fun _ _ _ _ _ _ us hl => match us, hl with | [_], _ => rfl
  have F4 := fund_mk (st := s_NoText_init) l4 c4 k4
  have bb4 : Binds K _ ["self", "words", "row"] [] := FunD.binds (ds := []) 3 rfl F4 t4 fun _ _ _ _ _ _ us hl => match us, hl with | [_, _, _], _ => ⟨_, rfl, rfl⟩
  have bd4 : Binds K _ ["self", "words", "row"] [.int 0 tk4_0] := FunD.binds 2 rfl F4 t4 fun _ _ _ _ _ _ us hl => match us, hl with | [_, _], _ => ⟨_, rfl, rfl⟩
  have kb4 : KBinds K _ ["self", "words", "row"] ["row"] (gAB 2 1) (gAB 2 1) := FunD.kbinds 2 1 (by decide) F4 t4 (fun _ _ _ _ _ _ us ws h1 h2 => match us, h1, ws, h2 with | [_, _], _, [_], _ => ⟨_, rfl, rfl⟩)
  have F5 := fun_mk (st := s_time_of) l5 c5 k5
  have bb5 := F5.binds (ps := ["text"]) fun _ _ _ _ _ _ us hl => match us, hl with | [_], _ => rfl
  have F6 := fun_mk (st := s_is_lamp) l6 c6 k6
  have bb6 := F6.binds (ps := ["thing"]) fun _ _ _ _ _ _ us hl => match us, hl with | [_], _ => rfl
  have F7 := fun_mk (st := s_is_side) l7 c7 k7
  have bb7 := F7.binds (ps := ["thing"]) fun _ _ _ _ _ _ us hl => match us, hl with | [_], _ => rfl
  have F8 := fun_mk (st := s_whole_of) l8 c8 k8
  have bb8 := F8.binds (ps := ["word", "most"]) fun _ _ _ _ _ _ us hl => match us, hl with | [_, _], _ => rfl
  have F9 := fun_mk (st := s_ticks_of) l9 c9 k9
  have bb9 := F9.binds (ps := ["word"]) fun _ _ _ _ _ _ us hl => match us, hl with | [_], _ => rfl
  have F10 := fun_mk (st := s_thing_of) l10 c10 k10
  have bb10 := F10.binds (ps := ["kind", "word"]) fun _ _ _ _ _ _ us hl => match us, hl with | [_, _], _ => rfl
  have F11 := fun_mk (st := s_things_by) l11 c11 k11
  have bb11 := F11.binds (ps := ["form", "words"]) fun _ _ _ _ _ _ us hl => match us, hl with | [_, _], _ => rfl
  have F12 := fun_mk (st := s_row_of) l12 c12 k12
  have bb12 := F12.binds (ps := ["row"]) fun _ _ _ _ _ _ us hl => match us, hl with | [_], _ => rfl
  have F13 := fun_mk (st := s_law_cell_at) l13 c13 k13
  have bb13 := F13.binds (ps := ["_law_script", "_law_k"]) fun _ _ _ _ _ _ us hl => match us, hl with | [_, _], _ => rfl
  have F14 := fun_mk (st := s_law_number) l14 c14 k14
  have bb14 := F14.binds (ps := ["_law_cell", "_law_k"]) fun _ _ _ _ _ _ us hl => match us, hl with | [_, _], _ => rfl
  have F15 := fun_mk (st := s_law_whole) l15 c15 k15
  have bb15 := F15.binds (ps := ["_law_found"]) fun _ _ _ _ _ _ us hl => match us, hl with | [_], _ => rfl
  have F16 := fun_mk (st := s_law_name) l16 c16 k16
  have bb16 := F16.binds (ps := ["_law_number_here"]) fun _ _ _ _ _ _ us hl => match us, hl with | [_], _ => rfl
  have F17 := fun_mk (st := s_law_ticks) l17 c17 k17
  have bb17 := F17.binds (ps := ["_law_number_here"]) fun _ _ _ _ _ _ us hl => match us, hl with | [_], _ => rfl
  have F18 := fun_mk (st := s_law_time_text) l18 c18 k18
  have bb18 := F18.binds (ps := ["_law_ticks_here"]) fun _ _ _ _ _ _ us hl => match us, hl with | [_], _ => rfl
  have F19 := fun_mk (st := s_law_refused) l19 c19 k19
  have bb19 := F19.binds (ps := ["_law_thing_here"]) fun _ _ _ _ _ _ us hl => match us, hl with | [_], _ => rfl
  have F20 := fun_mk (st := s_law_thing) l20 c20 k20
  have bb20 := F20.binds (ps := ["_law_kind", "_law_number_here"]) fun _ _ _ _ _ _ us hl => match us, hl with | [_, _], _ => rfl
  have F21 := fun_mk (st := s_law_form) l21 c21 k21
  have bb21 := F21.binds (ps := ["_law_word", "_law_number_here"]) fun _ _ _ _ _ _ us hl => match us, hl with | [_, _], _ => rfl
  have F22 := fun_mk (st := s_law_row) l22 c22 k22
  have bb22 := F22.binds (ps := ["_law_cell", "_law_number_here"]) fun _ _ _ _ _ _ us hl => match us, hl with | [_, _], _ => rfl
  have F23 := fun_mk (st := s_law_spoilt_word) l23 c23 k23
  have bb23 := F23.binds (ps := ["_law_row_here", "_law_number_here"]) fun _ _ _ _ _ _ us hl => match us, hl with | [_, _], _ => rfl
  have F24 := fun_mk (st := s_law_spoilt) l24 c24 k24
  have bb24 := F24.binds (ps := ["_law_row_here", "_law_way"]) fun _ _ _ _ _ _ us hl => match us, hl with | [_, _], _ => rfl
  have F25 := fun_mk (st := s_law_same) l25 c25 k25
  have bb25 := F25.binds (ps := ["_law_found", "_law_due"]) fun _ _ _ _ _ _ us hl => match us, hl with | [_, _], _ => rfl
  have F26 := fun_mk (st := s_law) l26 c26 k26
  have bb26 := F26.binds (ps := ["_law_script"]) fun _ _ _ _ _ _ us hl => match us, hl with | [_], _ => rfl
  have T : Txt K mg ⟨f0, _, f1, _, f2, _, f3, _, f4, _, T4, [.int 0 tk4_0], f5, _, f6, _, f7, _, f8, _, f9, _, f10, _, f11, _, f12, _, f13, _, f14, _, f15, _, f16, _, f17, _, f18, _, f19, _, f20, _, f21, _, f22, _, f23, _, f24, _, f25, _, fa, _, C_LampError, C_NoText, C_NoTime, C_NoSlot, C_NoWorth, C_NoCue, C_Late, C_NoName, C_NoRow, S_SIDES, S_DEEDS, ()⟩ := ⟨F0, bb0, PySem.W.mg_of X G a0, F1, bb1, PySem.W.mg_of X G a1, F2, bb2, PySem.W.mg_of X G a2, F3, bb3, PySem.W.mg_of X G a3, F4, bb4, bd4, (.cons ⟨_, rfl⟩ (.nil)), kb4, ⟨⟨_, _, _, _, _, _, _, _, _, _, _, _, _, _, _, lx_NoText⟩, x_LampError, ⟨_, _, _, _, _, _, _, _, _, _, _, _, _, _, _, lx_LampError⟩, a4, beq_iff_eq.mp i4, kp_NoText, sa_NoText, hd_NoText, ⟨xc0_NoText, xc1_NoText, ic_of xc3_NoText, xc2_NoText, xg_get, xg_set, xc3_NoText, xc4_NoText⟩⟩, ⟨u0_LampError, u1_LampError, u2_LampError⟩, hd_NoText, nr_NoText_row, F5, bb5, PySem.W.mg_of X G a5, F6, bb6, PySem.W.mg_of X G a6, F7, bb7, PySem.W.mg_of X G a7, F8, bb8, PySem.W.mg_of X G a8, F9, bb9, PySem.W.mg_of X G a9, F10, bb10, PySem.W.mg_of X G a10, F11, bb11, PySem.W.mg_of X G a11, F12, bb12, PySem.W.mg_of X G a12, F13, bb13, PySem.W.mg_of X G a13, F14, bb14, PySem.W.mg_of X G a14, F15, bb15, PySem.W.mg_of X G a15, F16, bb16, PySem.W.mg_of X G a16, F17, bb17, PySem.W.mg_of X G a17, F18, bb18, PySem.W.mg_of X G a18, F19, bb19, PySem.W.mg_of X G a19, F20, bb20, PySem.W.mg_of X G a20, F21, bb21, PySem.W.mg_of X G a21, F22, bb22, PySem.W.mg_of X G a22, F23, bb23, PySem.W.mg_of X G a23, F24, bb24, PySem.W.mg_of X G a24, F25, bb25, PySem.W.mg_of X G a25, F26, bb26, PySem.W.mg_of X G a26, PySem.W.mg_of X G aC_LampError, PySem.W.mg_of X G aC_NoText, PySem.W.mg_of X G aC_NoTime, PySem.W.mg_of X G aC_NoSlot, PySem.W.mg_of X G aC_NoWorth, PySem.W.mg_of X G aC_NoCue, PySem.W.mg_of X G aC_Late, PySem.W.mg_of X G aC_NoName, PySem.W.mg_of X G aC_NoRow, ⟨xc0_NoText, xc1_NoText, ic_of xc3_NoText, xc2_NoText, xg_get, xg_set, xc3_NoText, xc4_NoText⟩, xm_NoText, xv_NoText, xe_NoText_NoText, xk_NoText_LampError, xk_NoText_NoText, xk_NoText_NoTime, xk_NoText_NoSlot, xk_NoText_NoWorth, xk_NoText_NoCue, xk_NoText_Late, xk_NoText_NoName, xk_NoText_NoRow, x_NoRow, ⟨xc0_NoRow, xc1_NoRow, ic_of xc3_NoRow, xc2_NoRow, xg_get, xg_set, xc3_NoRow, xc4_NoRow⟩, xm_NoRow, xv_NoRow, xe_NoRow_NoText, xk_NoRow_LampError, xk_NoRow_NoText, xk_NoRow_NoTime, xk_NoRow_NoSlot, xk_NoRow_NoWorth, xk_NoRow_NoCue, xk_NoRow_Late, xk_NoRow_NoName, xk_NoRow_NoRow, PySem.W.mg_none_of X G z_isinstance, PySem.W.mg_none_of X G z_int, PySem.W.mg_none_of X G z_bool, PySem.W.mg_none_of X G z_str, PySem.W.mg_none_of X G z_tuple, PySem.W.mg_none_of X G z_list, PySem.W.mg_none_of X G z_len, PySem.W.mg_none_of X G z_all, PySem.W.mg_none_of X G z_range, PySem.W.mg_none_of X G z_enumerate, PySem.W.mg_none_of X G z_zip, PySem.W.mg_none_of X G z_ValueError, ⟨_, PySem.W.mg_of X G gc_MOST_TICKS⟩, ⟨_, PySem.W.mg_of X G gc_TICKS_A_SECOND⟩, ⟨_, PySem.W.mg_of X G gc_PLACES⟩, ⟨_, PySem.W.mg_of X G gc_MOST_FIGURES⟩, ⟨_, PySem.W.mg_of X G gc_FIGURES⟩, ⟨_, PySem.W.mg_of X G gc_LETTERS⟩, ⟨_, PySem.W.mg_of X G gc_MOST_LETTERS⟩, ⟨_, PySem.W.mg_of X G gc_MOST_WORTH⟩, ⟨_, PySem.W.mg_of X G gc_MOST_NUMBER⟩, ⟨_, PySem.W.mg_of X G gc_MOST_LEVEL⟩, ⟨_, PySem.W.mg_of X G gc_MOST_TICK⟩, PySem.W.mg_of X G gs_SIDES, sqt_of ls_SIDES (by show 6 ≤ 1000; decide) (.cons ⟨_, rfl⟩ (.cons ⟨_, rfl⟩ (.cons ⟨_, rfl⟩ (.cons ⟨_, rfl⟩ (.cons ⟨_, rfl⟩ (.cons ⟨_, rfl⟩ (.nil))))))), PySem.W.mg_of X G gs_DEEDS, sqt_of ls_DEEDS (by show 18 ≤ 1000; decide) (.cons ⟨_, rfl⟩ (.cons ⟨_, rfl⟩ (.cons ⟨_, rfl⟩ (.cons ⟨_, rfl⟩ (.cons ⟨_, rfl⟩ (.cons ⟨_, rfl⟩ (.cons ⟨_, rfl⟩ (.cons ⟨_, rfl⟩ (.cons ⟨_, rfl⟩ (.cons ⟨_, rfl⟩ (.cons ⟨_, rfl⟩ (.cons ⟨_, rfl⟩ (.cons ⟨_, rfl⟩ (.cons ⟨_, rfl⟩ (.cons ⟨_, rfl⟩ (.cons ⟨_, rfl⟩ (.cons ⟨_, rfl⟩ (.cons ⟨_, rfl⟩ (.nil)))))))))))))))))))⟩
  refine ⟨_, fun s v => ?_, fun base _ _ => ok_law T⟩
  exact .of_eq rfl
theorem walk {l : PySem.W.OpenLaw} {q : Program} {loose : List Str} {XP : (Str → Option Value) → Heap → Prop} {YP : World → Heap → Prop} {d : DefRec} {K : Params → PySem.W.Frag} (hn : l.most = some 63) (hdf : d.params.defaults = [])
    (hY : ∀ (w : World) (h : Heap), YP w h → (K w.params).In h)
    (F : ∀ (w : World) (mg : Str → Option Value) (fa : Addr) (h : Heap), (K w.params).In h → h.Ns mainGlobals mg → mg d.name = some (.ref fa) →
      ∃ fd : FuncData, (∀ (s : Shared) (u : Value), BindsTo s fd ⟨[u], []⟩ [("_law_script", u)]) ∧ ∀ base : Heap, (K w.params).In base → base.Ns mainGlobals mg → FnOk l.prog w (K w.params) mg base (CXE l.prog w) 10 fa fd ["_law_script"] (spLaw (K w.params))) :
    PySem.W.WalkO q loose XP YP l.row.toRowW d [] (fun f vs => PySem.call f vs) :=
  L2.walk_of (n := 63) (k := 10) (x := "_law_script") (CX := fun w => CXE l.prog w) (sp := fun w => spLaw (K w.params)) hn (by decide) hdf ⟨rfl, by decide, by decide⟩ hY F (fun _ _ a ns hl _ hS => ⟨a, ns, rfl, hS, hl, fun _ => rfl⟩) fun _ _ _ _ _ ⟨_, _, _, _, _, _, _, _, _, _, _, _, _, _, _, z⟩ => z
end My
namespace PySem.W.Fast
abbrev tw90343872475197607 : Type := PySem.Params
theorem te90343872475197607 : PySem.Params = tw90343872475197607 := rfl
end PySem.W.Fast
open PySem PySem.W PyProof.Rows
set_option maxRecDepth 100000 in
set_option maxHeartbeats 0 in
theorem PySem.Challenge.cw_lampcues_k91_rows_read_holds : PySem.Challenge.rw_lampcues_k91_rows_read.Holds := by
  w_on; o_law; k_head; (case hw => w_witness2)
  k_fill
  refine My.walk (l := PySem.Challenge.rw_lampcues_k91_rows_read) rfl rfl (fun w h Y => PySem.W.kIn_of Y) ?F
  case F =>
    intro w mg fa h KX G hmg
    refine' My.all_mk KX G hmg ?aC_LampError ?aC_NoText ?aC_NoTime ?aC_NoSlot ?aC_NoWorth ?aC_NoCue ?aC_Late ?aC_NoName ?aC_NoRow ?a0 ?l0 ?c0 ?k0 ?a1 ?l1 ?c1 ?k1 ?a2 ?l2 ?c2 ?k2 ?a3 ?l3 ?c3 ?k3 ?a4 ?i4 ?l4 ?c4 ?k4 ?t4 ?a5 ?l5 ?c5 ?k5 ?a6 ?l6 ?c6 ?k6 ?a7 ?l7 ?c7 ?k7 ?a8 ?l8 ?c8 ?k8 ?a9 ?l9 ?c9 ?k9 ?a10 ?l10 ?c10 ?k10 ?a11 ?l11 ?c11 ?k11 ?a12 ?l12 ?c12 ?k12 ?a13 ?l13 ?c13 ?k13 ?a14 ?l14 ?c14 ?k14 ?a15 ?l15 ?c15 ?k15 ?a16 ?l16 ?c16 ?k16 ?a17 ?l17 ?c17 ?k17 ?a18 ?l18 ?c18 ?k18 ?a19 ?l19 ?c19 ?k19 ?a20 ?l20 ?c20 ?k20 ?a21 ?l21 ?c21 ?k21 ?a22 ?l22 ?c22 ?k22 ?a23 ?l23 ?c23 ?k23 ?a24 ?l24 ?c24 ?k24 ?a25 ?l25 ?c25 ?k25 ?a26 ?l26 ?c26 ?k26 ?xc0_NoText ?xc1_NoText ?xc2_NoText ?xc3_NoText ?xc4_NoText ?xm_NoText ?xv_NoText ?xe_NoText_NoText ?xk_NoText_LampError ?xk_NoText_NoText ?xk_NoText_NoTime ?xk_NoText_NoSlot ?xk_NoText_NoWorth ?xk_NoText_NoCue ?xk_NoText_Late ?xk_NoText_NoName ?xk_NoText_NoRow ?x_NoRow ?xc0_NoRow ?xc1_NoRow ?xc2_NoRow ?xc3_NoRow ?xc4_NoRow ?xm_NoRow ?xv_NoRow ?xe_NoRow_NoText ?xk_NoRow_LampError ?xk_NoRow_NoText ?xk_NoRow_NoTime ?xk_NoRow_NoSlot ?xk_NoRow_NoWorth ?xk_NoRow_NoCue ?xk_NoRow_Late ?xk_NoRow_NoName ?xk_NoRow_NoRow ?x_LampError ?lx_NoText ?lx_LampError ?kp_NoText ?sa_NoText ?hd_NoText ?nr_NoText_row ?u0_LampError ?u1_LampError ?u2_LampError ?xg_get ?xg_set ?z_isinstance ?z_int ?z_bool ?z_str ?z_tuple ?z_list ?z_len ?z_all ?z_range ?z_enumerate ?z_zip ?z_ValueError ?gc_MOST_TICKS ?gc_TICKS_A_SECOND ?gc_PLACES ?gc_MOST_FIGURES ?gc_FIGURES ?gc_LETTERS ?gc_MOST_LETTERS ?gc_MOST_WORTH ?gc_MOST_NUMBER ?gc_MOST_LEVEL ?gc_MOST_TICK ?gs_SIDES ?ls_SIDES ?gs_DEEDS ?ls_DEEDS
    (case aC_LampError => k_is)
    (case aC_NoText => k_is)
    (case aC_NoTime => k_is)
    (case aC_NoSlot => k_is)
    (case aC_NoWorth => k_is)
    (case aC_NoCue => k_is)
    (case aC_Late => k_is)
    (case aC_NoName => k_is)
    (case aC_NoRow => k_is)
    (case a0 => k_is)
    (case l0 => k_is)
    (case c0 => k_is)
    (case k0 => k_is)
    (case a1 => k_is)
    (case l1 => k_is)
    (case c1 => k_is)
    (case k1 => k_is)
    (case a2 => k_is)
    (case l2 => k_is)
    (case c2 => k_is)
    (case k2 => k_is)
    (case a3 => k_is)
    (case l3 => k_is)
    (case c3 => k_is)
    (case k3 => k_is)
    (case a4 => k_is)
    (case i4 => k_is)
    (case l4 => k_is)
    (case c4 => k_is)
    (case k4 => k_is)
    (case t4 => k_is)
    (case a5 => k_is)
    (case l5 => k_is)
    (case c5 => k_is)
    (case k5 => k_is)
    (case a6 => k_is)
    (case l6 => k_is)
    (case c6 => k_is)
    (case k6 => k_is)
    (case a7 => k_is)
    (case l7 => k_is)
    (case c7 => k_is)
    (case k7 => k_is)
    (case a8 => k_is)
    (case l8 => k_is)
    (case c8 => k_is)
    (case k8 => k_is)
    (case a9 => k_is)
    (case l9 => k_is)
    (case c9 => k_is)
    (case k9 => k_is)
    (case a10 => k_is)
    (case l10 => k_is)
    (case c10 => k_is)
    (case k10 => k_is)
    (case a11 => k_is)
    (case l11 => k_is)
    (case c11 => k_is)
    (case k11 => k_is)
    (case a12 => k_is)
    (case l12 => k_is)
    (case c12 => k_is)
    (case k12 => k_is)
    (case a13 => k_is)
    (case l13 => k_is)
    (case c13 => k_is)
    (case k13 => k_is)
    (case a14 => k_is)
    (case l14 => k_is)
    (case c14 => k_is)
    (case k14 => k_is)
    (case a15 => k_is)
    (case l15 => k_is)
    (case c15 => k_is)
    (case k15 => k_is)
    (case a16 => k_is)
    (case l16 => k_is)
    (case c16 => k_is)
    (case k16 => k_is)
    (case a17 => k_is)
    (case l17 => k_is)
    (case c17 => k_is)
    (case k17 => k_is)
    (case a18 => k_is)
    (case l18 => k_is)
    (case c18 => k_is)
    (case k18 => k_is)
    (case a19 => k_is)
    (case l19 => k_is)
    (case c19 => k_is)
    (case k19 => k_is)
    (case a20 => k_is)
    (case l20 => k_is)
    (case c20 => k_is)
    (case k20 => k_is)
    (case a21 => k_is)
    (case l21 => k_is)
    (case c21 => k_is)
    (case k21 => k_is)
    (case a22 => k_is)
    (case l22 => k_is)
    (case c22 => k_is)
    (case k22 => k_is)
    (case a23 => k_is)
    (case l23 => k_is)
    (case c23 => k_is)
    (case k23 => k_is)
    (case a24 => k_is)
    (case l24 => k_is)
    (case c24 => k_is)
    (case k24 => k_is)
    (case a25 => k_is)
    (case l25 => k_is)
    (case c25 => k_is)
    (case k25 => k_is)
    (case a26 => k_is)
    (case l26 => k_is)
    (case c26 => k_is)
    (case k26 => k_is)
    (case xc0_NoText => k_is)
    (case xc1_NoText => k_is)
    (case xc2_NoText => k_is)
    (case xc3_NoText => k_is)
    (case xc4_NoText => k_is)
    (case xm_NoText => kts_exm)
    (case xv_NoText => kit_is)
    (case xe_NoText_NoText => kts_exm)
    (case xk_NoText_LampError => kit_is)
    (case xk_NoText_NoText => kit_is)
    (case xk_NoText_NoTime => kit_is)
    (case xk_NoText_NoSlot => kit_is)
    (case xk_NoText_NoWorth => kit_is)
    (case xk_NoText_NoCue => kit_is)
    (case xk_NoText_Late => kit_is)
    (case xk_NoText_NoName => kit_is)
    (case xk_NoText_NoRow => kit_is)
    (case x_NoRow => k_exc)
    (case xc0_NoRow => k_is)
    (case xc1_NoRow => k_is)
    (case xc2_NoRow => k_is)
    (case xc3_NoRow => k_is)
    (case xc4_NoRow => k_is)
    (case xm_NoRow => kts_exm)
    (case xv_NoRow => kit_is)
    (case xe_NoRow_NoText => kts_exm)
    (case xk_NoRow_LampError => kit_is)
    (case xk_NoRow_NoText => kit_is)
    (case xk_NoRow_NoTime => kit_is)
    (case xk_NoRow_NoSlot => kit_is)
    (case xk_NoRow_NoWorth => kit_is)
    (case xk_NoRow_NoCue => kit_is)
    (case xk_NoRow_Late => kit_is)
    (case xk_NoRow_NoName => kit_is)
    (case xk_NoRow_NoRow => kit_is)
    (case x_LampError => k_exc)
    (case lx_NoText => k_is)
    (case lx_LampError => k_is)
    (case kp_NoText => k_is)
    (case sa_NoText => k_is)
    (case hd_NoText => k_is)
    (case nr_NoText_row => k_is)
    (case u0_LampError => k_is)
    (case u1_LampError => k_is)
    (case u2_LampError => k_is)
    (case xg_get => k_is)
    (case xg_set => k_is)
    (case z_isinstance => k_is)
    (case z_int => k_is)
    (case z_bool => k_is)
    (case z_str => k_is)
    (case z_tuple => k_is)
    (case z_list => k_is)
    (case z_len => k_is)
    (case z_all => k_is)
    (case z_range => k_is)
    (case z_enumerate => k_is)
    (case z_zip => k_is)
    (case z_ValueError => k_is)
    (case gc_MOST_TICKS => k_is)
    (case gc_TICKS_A_SECOND => k_is)
    (case gc_PLACES => k_is)
    (case gc_MOST_FIGURES => k_is)
    (case gc_FIGURES => k_is)
    (case gc_LETTERS => k_is)
    (case gc_MOST_LETTERS => k_is)
    (case gc_MOST_WORTH => k_is)
    (case gc_MOST_NUMBER => k_is)
    (case gc_MOST_LEVEL => k_is)
    (case gc_MOST_TICK => k_is)
    (case gs_SIDES => k_is)
    (case ls_SIDES => k_is)
    (case gs_DEEDS => k_is)
    (case ls_DEEDS => k_is)
