import PyProof.Rows.All
import Wide.All
import OpenK.AllK
import Wide.FinOn
import Lean
import PyProof.EqAt
import PyProof.EqKinds
import PyProof.TupleCall
import PySem.SetTable
import PyProof.SetKind
import PyProof.SetNew
import PyProof.SetRoads
import PyProof.TupleKey
import PyProof.IsRules
import PyProof.Rows.SetFrom
import PyProof.CollectWalk
import PyProof.CollectIter
import KE.KSortTup
import PyProof.DictWalks
import PyProof.DictItems
import KE.KDictOf
import KE.KMinKey
import PyProof.Rows.CallKwBuiltin
import PyProof.Rows.Range3
import PyProof.ZipIter
import KE.KEqSeq
import PyProof.NeKinds
import KE.KRevIter
import PyProof.Rows.SortStr
import PyProof.Rows.SortWalk
import PyProof.EnumFor
import PyProof.EnumMake
import PyProof.AutoListH
import PySem.Challenge.RW_lampcues_k83_refused_lamps
set_option Elab.async false
set_option linter.all false
set_option maxRecDepth 100000
set_option maxHeartbeats 4000000
open PySem.W (Frag InitBack InstAt KitX any_some bind_fn binds_K callWith_K callWith_K0 cellsFrom_some check_slot class_get clsIn cls_value codeIn codeRec_of emptyDict eq_bytes excIn exmOne exm_one findCls findIn findObj findObj_own fnOf get_value handedIn handed_on hasDictIn hideAll hideAll_get hideAll_none hideAll_size instObj isFn isNs_of_in keepIn kia_one kitOne kitx_bool kitx_dict kitx_float kitx_int kitx_list kitx_none kitx_own kitx_str kitx_tuple lookIn looks_clsIn looks_find looks_findIn looks_mroIn make_core makesIn makes_of methodCall_KW methodObj method_cls method_fn mg_none_of mg_of mroIn ne_bytes notCls nsIn nsMap_none_of_in of_hideAll osa_eq osa_open plainGet plainGet_of plainOver readsIn set_plain specialIn tail_of_in takerIn takesIn typeIn)
namespace L2
open PySem PySem.Spec PyProof.Rows
abbrev Key := Sum Int Str
def yv0 : Key -> Value -> Bool
 | .inl k, v => Value.isInt k v
 | .inr x, v => Value.isStrOf x v
def keyH (w : World) : Key -> Int
 | .inl k => hashInt k
 | .inr x => hashStr w x
theorem xe4 : ∀ {k : Key} {v : Value}, yv0 k v = true -> (∃ i t, k = Sum.inl i /\ v = Value.int i t) \/ (∃ x t, k = Sum.inr x /\ v = Value.str x t)
 | .inl i, v, h => by
  obtain ⟨t, e⟩ := Value.isInt_shape (k := i) (v := v) h
  exact .inl ⟨i, t, rfl, e⟩
 | .inr x, v, h => by
  obtain ⟨t, e⟩ := Value.isStrOf_shape (x := x) (v := v) h
  exact .inr ⟨x, t, rfl, e⟩
theorem zb9 (i : Int) (t : Tok) : yv0 (.inl i) (.int i t) = true := by simp [yv0, Value.isInt]
theorem zb8 (x : Str) (t : Tok) : yv0 (.inr x) (.str x t) = true := by simp [yv0, Value.isStrOf]
theorem key_ll (a b : Int) : decide ((Sum.inl a : Key) = Sum.inl b) = (a == b) := by
 by_cases e : a = b
 ·subst e; simp
 ·have h : ¬ (Sum.inl a : Key) = Sum.inl b := fun q => e (Sum.inl.inj q)
  rw [decide_eq_false h]
  exact (beq_eq_false_iff_ne.mpr e).symm
theorem key_rr (a b : Str) : decide ((Sum.inr a : Key) = Sum.inr b) = decide (a = b) := by
 by_cases e : a = b
 ·subst e; simp
 ·have h : ¬ (Sum.inr a : Key) = Sum.inr b := fun q => e (Sum.inr.inj q)
  rw [decide_eq_false h, decide_eq_false e]
theorem key_lr (a : Int) (b : Str) : decide ((Sum.inl a : Key) = Sum.inr b) = false := decide_eq_false (fun q => nomatch q)
theorem key_rl (a : Str) (b : Int) : decide ((Sum.inr a : Key) = Sum.inl b) = false := decide_eq_false (fun q => nomatch q)
def xd6 (prog : Program) (w : World) : PySem.KeyKind prog w Key where
 is := yv0
 hash := keyH w
 inj := fun v a b ha hb => by
  rcases xe4 ha with ⟨i, t, rfl, rfl⟩ | ⟨x, t, rfl, rfl⟩
  ·rcases xe4 hb with ⟨j, u, rfl, e⟩ | ⟨y, u, rfl, e⟩
   ·injection e with e1 _; rw [e1]
   ·exact nomatch e
  ·rcases xe4 hb with ⟨j, u, rfl, e⟩ | ⟨y, u, rfl, e⟩
   ·exact nomatch e
   ·injection e with e1 _; rw [e1]
 byValue := fun k v h => by
  rcases xe4 h with ⟨i, t, rfl, rfl⟩ | ⟨x, t, rfl, rfl⟩ <;> rfl
 pyHash := fun hv h => by
  rcases xe4 hv with ⟨i, t, rfl, rfl⟩ | ⟨x, t, rfl, rfl⟩
  ·exact wpAny_pyHash_int h
  ·exact wpAny_pyHash_str h
 eqBool := fun hu hv h => by
  rcases xe4 hu with ⟨i, t, rfl, rfl⟩ | ⟨x, t, rfl, rfl⟩
  ·rcases xe4 hv with ⟨j, u, rfl, rfl⟩ | ⟨y, u, rfl, rfl⟩
   ·rw [key_ll] at h; exact wpAny_eqBool_int h
   ·rw [key_lr] at h; exact SeqAt.EqAt.int_str i t y u _ _ _ _ h
  ·rcases xe4 hv with ⟨j, u, rfl, rfl⟩ | ⟨y, u, rfl, rfl⟩
   ·rw [key_rl] at h; exact SeqAt.EqAt.str_int x t j u _ _ _ _ h
   ·rw [key_rr] at h; exact wpAny_eqBool_str h
 «strs» := fun k x t v h => by
  rcases xe4 h with ⟨i, u, rfl, e⟩ | ⟨y, u, rfl, e⟩
  ·exact nomatch e
  ·injection e with e1 _
   subst e1
   cases v <;> rfl
theorem yn6 (prog : Program) (w : World) (i : Int) (t : Tok) : (xd6 prog w).is (.inl i) (.int i t) = true := zb9 i t
theorem yn5 (prog : Program) (w : World) (x : Str) (t : Tok) : (xd6 prog w).is (.inr x) (.str x t) = true := zb8 x t
inductive V where
 | non | bl (b : Bool) | int (i : Int) | str (x : Str) | byt (b : Array UInt8) | flt (b : UInt64) | ref (a : Addr) | ty (n : String)
 deriving DecidableEq
def RelV : V -> Value -> Prop
 | .non, u => u = Value.none
 | .bl b, u => u = Value.bool b
 | .int i, u => ∃ t, u = Value.int i t
 | .str x, u => ∃ t, u = Value.str x t
 | .byt b, u => ∃ t, u = Value.bytes b t
 | .flt b, u => ∃ t, u = Value.float b t
 | .ref a, u => u = Value.ref a
 | .ty n, u => u = Value.type n
abbrev Vals : List V -> List Value -> Prop := Paired RelV
theorem Vals.length {xs : List V} {us : List Value} (r : Vals xs us) : xs.length = us.length := Paired.length r
theorem Vals.get : ∀ {xs : List V} {us : List Value} {i : Nat} {x : V}, Vals xs us -> xs[i]? = some x -> ∃ u, us[i]? = some u /\ RelV x u
 | _, _, _, _, .nil, e => by simp at e
 | _, _, 0, _, .cons r _, e => by simp at e; subst e; exact ⟨_, rfl, r⟩
 | _, _, i + 1, x, .cons _ t, e => by
  obtain ⟨u, h1, h2⟩ := Vals.get (i := i) (x := x) t (by simpa using e)
  exact ⟨u, by simpa using h1, h2⟩
theorem Vals.set {x : V} {u : Value} (r : RelV x u) : ∀ {xs : List V} {us : List Value} (i : Nat), Vals xs us -> Vals (xs.set i x) (us.set i u)
 | _, _, _, .nil => .nil
 | _, _, 0, .cons _ t => .cons r t
 | _, _, i + 1, .cons q t => .cons q (Vals.set r i t)
theorem Vals.append : ∀ {xs ys : List V} {us ws : List Value}, Vals xs us -> Vals ys ws -> Vals (xs ++ ys) (us ++ ws)
 | _, _, _, _, .nil, s => s
 | _, _, _, _, .cons r t, s => .cons r (Vals.append t s)
theorem Vals.take : ∀ {xs : List V} {us : List Value} (n : Nat), Vals xs us -> Vals (xs.take n) (us.take n)
 | _, _, 0, _ => .nil
 | _, _, _ + 1, .nil => .nil
 | _, _, n + 1, .cons r t => .cons r (Vals.take n t)
theorem Vals.drop : ∀ {xs : List V} {us : List Value} (n : Nat), Vals xs us -> Vals (xs.drop n) (us.drop n)
 | _, _, 0, r => r
 | _, _, _ + 1, .nil => .nil
 | _, _, n + 1, .cons _ t => Vals.drop n t
theorem Vals.none_of : ∀ {xs : List V} {us : List Value} {i : Nat}, Vals xs us -> xs[i]? = none -> us[i]? = none := fun {xs us i} r e => by
 have h1 := r.length
 have h2 : xs.length <= i := List.getElem?_eq_none_iff.mp e
 exact List.getElem?_eq_none_iff.mpr (by omega)
def RelO : Option V -> Option Value -> Prop
 | some v, some u => RelV v u
 | none, none => True
 | _, _ => False
def KV {κ : Type} : List (κ × V) -> List (κ × Value) -> Prop := Paired fun (p : κ × V) (q : κ × Value) => p.1 = q.1 /\ RelV p.2 q.2
def kV : Key -> V
 | .inl i => .int i
 | .inr x => .str x
inductive HO where
 | lst (xs : List V)
 | tup (xs : List V)
 | dK (kvs : List (Key × V)) | dT (kvs : List (List Key × V))
 | set (S : Int -> Bool) (n : Nat)
 | ins (C dx : Addr) (fs : List (Str × V))
 | own (x : Addr)
 | xd (fs : List (Str × V))
 | met (f x : Addr)
 | rng (lo hi : Int)
 | frz (o : Obj) (u : HO)
 | tbl (ps : Array Value)
 | ext (φ : Heap -> Prop)
abbrev Hp := Addr -> Option HO
def upd (H : Hp) (a : Addr) (o : HO) : Hp := fun b => if b = a then some o else H b
theorem xa1 {H : Hp} {a : Addr} {o : HO} : upd H a o a = some o := by unfold upd; rw [if_pos rfl]
theorem xa3 {H : Hp} {a b : Addr} {o : HO} (h : b ≠ a) : upd H a o b = H b := by unfold upd; rw [if_neg h]
theorem xk0 {H : Hp} {a b : Addr} {o u : HO} (h : H a = some o) (h' : H b = some u) (d : o ≠ u) : a ≠ b := by
 intro e; subst e; rw [h] at h'; exact d (Option.some.inj h')
theorem xa7 {H : Hp} {a b : Addr} {o : HO} (h : H a = some o) (h' : H b = none) : a ≠ b := by
 intro e; subst e; rw [h] at h'; cases h'
section
variable (P : Program) (w : World)
def xd4 (H : Hp) (h : Heap) (a : Addr) : HO -> Prop
 | .lst xs => xs.length <= sizeLine /\ ∃ (its : List Value) (n : Nat), Vals xs its /\ h.get? a = some { cls := .type "list", data := .seq its.toArray n }
 | .tup xs => xs.length <= sizeLine /\ ∃ its : List Value, Vals xs its /\ IsTup h a its.toArray
 | .dK kvs => kvs.length <= sizeLine /\ (a == sysModules) = false /\ ∃ vs, KV kvs vs /\ h.DictOf (xd6 P w) a vs
 | .dT kvs => kvs.length <= sizeLine /\ (a == sysModules) = false /\ ∃ xs : List (List Key × Addr × Value),
   Paired (fun (p : List Key × V) (q : List Key × Addr × Value) => p.1 = q.1 /\ H q.2.1 = some (.tup (p.1.map kV)) /\ RelV p.2 q.2.2) kvs xs /\
   ∃ o es ep, h.get? a = some o /\ o.ExactDict /\ o.data = .dict es ep /\ es.toList = xs.map (entryOfKey (tupleKind (xd6 P w))) /\ (xs.map (·.1)).Nodup
 | .set S n => h.SetOf (intKind P w) a S n
 | .ins C dx fs => H dx = some (.own a) /\ fs.length <= 1000 /\ dx ≠ a /\ h.get? a = some (instObj C dx) /\
   ∃ mA, h.Ns1 dx mA /\ (∀ f, RelO (fs.lookup f) (mA f)) /\ PySem.Within mA (fs.map (·.1))
 | .own _ => ∃ o, h.get? a = some o
 | .xd fs => ∃ mA, h.Ns1 a mA /\ ∀ f, RelO (fs.lookup f) (mA f)
 | .rng lo hi => ∃ t u v, h.get? a = some { cls := .type "range", data := .fields #[.int lo t, .int hi u, .int 1 v] }
 | .frz o u => h.get? a = some o /\ xd4 H h a u
 | .tbl ps => h.get? a = some { cls := .none, data := .fields ps }
 | .met f x => h.get? a = some (methodObj (.ref f) (.ref x))
 | .ext φ => φ h /\ (∃ o, h.get? a = some o) /\ ∀ h1 h2 : Heap, φ h1 -> (∀ o, h1.get? a = some o -> h2.get? a = some o) -> φ h2
def HOk (H : Hp) (h : Heap) : Prop := ∀ a o, H a = some o -> xd4 P w H h a o
end
section
variable {P : Program} {w : World} {H H' : Hp} {h h' : Heap} {a : Addr} {o : HO}
theorem xd4.lt (x : xd4 P w H h a o) : a < h.objs.size := by
 cases o with
 | lst xs => obtain ⟨_, _, _, _, e⟩ := x; exact Heap.lt_size e
 | tup xs => obtain ⟨_, _, _, p⟩ := x; exact p.lt
 | dK kvs => obtain ⟨_, _, _, _, o, _, _, e, _⟩ := x; exact Heap.lt_size e
 | dT kvs => obtain ⟨_, _, _, _, o, _, _, e, _⟩ := x; exact Heap.lt_size e
 | set S n => obtain ⟨o, _, _, _, e, _⟩ := x; exact Heap.lt_size e
 | ins C dx fs => obtain ⟨_, _, _, e, _⟩ := x; exact Heap.lt_size e
 | own y => obtain ⟨_, e⟩ := x; exact Heap.lt_size e
 | xd fs => obtain ⟨_, ⟨_, _, _, e, _⟩, _⟩ := x; exact Heap.lt_size e
 | rng lo hi => obtain ⟨_, _, _, e⟩ := x; exact Heap.lt_size e
 | frz ob u => obtain ⟨e, _⟩ := x; exact Heap.lt_size e
 | tbl ps => exact Heap.lt_size (show h.get? a = some _ from x)
 | met f y => exact Heap.lt_size (show h.get? a = some _ from x)
 | ext φ => obtain ⟨_, ⟨_, e⟩, _⟩ := x; exact Heap.lt_size e
theorem Paired.mapP {α β : Type} {F G : α -> β -> Prop} : ∀ {l₁ : List α} {l₂ : List β}, Paired F l₁ l₂ -> (∀ a b, F a b -> G a b) -> Paired G l₁ l₂
 | _, _, .nil, _ => .nil
 | _, _, .cons r t, f => .cons (f _ _ r) (Paired.mapP t f)
theorem xd4.stay (x : xd4 P w H h a o) (k : ∀ b u, (b = a \/ H b = some (.own a)) -> h.get? b = some u -> h'.get? b = some u)
  (ho : ∀ b, H b = some (.own a) -> H' b = some (.own a)) (ht : ∀ b xs, H b = some (.tup xs) -> H' b = some (.tup xs)) : xd4 P w H' h' a o := by
 induction o with
 | lst xs => obtain ⟨z, its, n, r, e⟩ := x; exact ⟨z, its, n, r, k _ _ (.inl rfl) e⟩
 | tup xs => obtain ⟨z, its, r, ob, e, c⟩ := x; exact ⟨z, its, r, ob, k _ _ (.inl rfl) e, c⟩
 | dK kvs => obtain ⟨z, y, vs, r, ob, es, ep, e, c⟩ := x; exact ⟨z, y, vs, r, ob, es, ep, k _ _ (.inl rfl) e, c⟩
 | dT kvs =>
  obtain ⟨z, y, xs, r, ob, es, ep, e, c⟩ := x
  exact ⟨z, y, xs, Paired.mapP r fun p q z => ⟨z.1, ht _ _ z.2.1, z.2.2⟩, ob, es, ep, k _ _ (.inl rfl) e, c⟩
 | set S n => obtain ⟨ob, es, ep, t, e, c⟩ := x; exact ⟨ob, es, ep, t, k _ _ (.inl rfl) e, c⟩
 | ins C dx fs =>
  obtain ⟨d, z, ne, e, mA, ⟨od, es, ep, e2, c⟩, r⟩ := x
  exact ⟨ho _ d, z, ne, k _ _ (.inl rfl) e, mA, ⟨od, es, ep, k _ _ (.inr d) e2, c⟩, r⟩
 | own y => obtain ⟨ob, e⟩ := x; exact ⟨ob, k _ _ (.inl rfl) e⟩
 | xd fs => obtain ⟨mA, ⟨od, es, ep, e, c⟩, r⟩ := x; exact ⟨mA, ⟨od, es, ep, k _ _ (.inl rfl) e, c⟩, r⟩
 | rng lo hi => obtain ⟨t, u, v, e⟩ := x; exact ⟨t, u, v, k _ _ (.inl rfl) e⟩
 | frz ob u ih => obtain ⟨e, q⟩ := x; exact ⟨k _ _ (.inl rfl) e, ih q⟩
 | tbl ps =>
  have e : h.get? a = some { cls := .none, data := .fields ps } := x
  show h'.get? a = some { cls := .none, data := .fields ps }
  exact k a _ (.inl rfl) e
 | met f y =>
  have e : h.get? a = some (methodObj (.ref f) (.ref y)) := x
  show h'.get? a = some (methodObj (.ref f) (.ref y))
  exact k a _ (.inl rfl) e
 | ext φ => obtain ⟨p, ⟨o, e⟩, st⟩ := x; exact ⟨st _ _ p fun o q => k _ _ (.inl rfl) q, ⟨o, k _ _ (.inl rfl) e⟩, st⟩
theorem HOk.lt (x : HOk P w H h) (e : H a = some o) : a < h.objs.size := (x a o e).lt
theorem HOk.fresh (x : HOk P w H h) (e : h.objs.size <= a) : H a = none := by
 cases q : H a with
 | none => rfl
 | some u => exact absurd (Nat.lt_of_lt_of_le (x.lt q) e) (Nat.lt_irrefl _)
theorem HOk.kept (x : HOk P w H h) (k : ∀ b u, h.get? b = some u -> h'.get? b = some u) : HOk P w H h' := fun a o e =>
 (x a o e).stay (fun b u _ q => k b u q) (fun _ q => q) fun _ _ q => q
theorem HOk.laid (x : HOk P w H h) (k : ∀ b u, h.get? b = some u -> h'.get? b = some u) (hp : h.objs.size <= a) (new : xd4 P w (upd H a o) h' a o) : HOk P w (upd H a o) h' := fun b u e => by
 have hn := x.fresh hp
 by_cases hb : b = a
 ·subst hb; rw [xa1] at e; cases e; exact new
 ·rw [xa3 hb] at e
  exact (x b u e).stay (fun c v _ q => k c v q) (fun c q => by rw [xa3 (xa7 q hn)]; exact q) fun c xs q => by rw [xa3 (xa7 q hn)]; exact q
end
def Rd (H : Hp) (a : Addr) (u : HO) : Prop := H a = some u \/ ∃ o, H a = some (.frz o u)
theorem Rd.of {H : Hp} {a : Addr} {u : HO} (h : H a = some u) : Rd H a u := .inl h
theorem Rd.ok {P : Program} {w : World} {H : Hp} {h : Heap} {a : Addr} {u : HO} (r : Rd H a u) (x : HOk P w H h) : xd4 P w H h a u := by
 rcases r with r | ⟨o, r⟩
 ·exact x a u r
 ·obtain ⟨_, q⟩ := x a _ r
  exact q
def Mut : Option HO -> Prop
 | some (.lst _) => True
 | some (.dK _) => True
 | some (.dT _) => True
 | some (.set _ _) => True
 | some (.ins _ _ _) => True
 | some (.ext _) => True
 | _ => False
section
variable {P : Program} {w : World} {H : Hp} {h h' : Heap} {x e : Addr} {o' : HO}
theorem HOk.write (ok : HOk P w H h) (mu : Mut (H x)) (he : e = x \/ H e = some (.own x)) (k : ∀ b u, b ≠ e -> h.get? b = some u -> h'.get? b = some u) (heo : ∃ u, h'.get? e = some u)
  (new : xd4 P w (upd H x o') h' x o') : HOk P w (upd H x o') h' := fun b u q => by
 have nown : ∀ c y, H c = some (.own y) -> c ≠ x := fun c y r z => by subst z; rw [r] at mu; exact mu
 have ntup : ∀ c xs, H c = some (.tup xs) -> c ≠ x := fun c xs r z => by subst z; rw [r] at mu; exact mu
 by_cases hb : b = x
 ·subst hb; rw [xa1] at q; cases q; exact new
 ·rw [xa3 hb] at q
  by_cases hbe : b = e
  ·have q' : H b = some (.own x) := by
    rcases he with z | z
    ·exact absurd (hbe.trans z) hb
    ·rw [hbe]; exact z
   rw [q] at q'; cases q'
   obtain ⟨v, hv⟩ := heo
   exact ⟨v, by rw [hbe]; exact hv⟩
  ·refine (ok b u q).stay (fun c v hc r => k c v ?_ r) (fun c r => by rw [xa3 (nown c b r)]; exact r) fun c xs r => by rw [xa3 (ntup c xs r)]; exact r
   rcases hc with rfl | hc
   ·exact hbe
   ·rintro rfl
    rcases he with z | z
    ·exact nown c b hc z
    ·rw [hc] at z; cases z; exact hb rfl
end
structure Un (fs ex : List Addr) (H H' : Hp) (h h' : Heap) : Prop where
 keep : ∀ b o, h.get? b = some o -> H b = none -> b ∉ fs -> b ∉ ex -> h'.get? b = some o
 slot : ∀ b o, h.get? b = some o -> H b = none -> b ∈ fs -> b ∉ ex -> ∃ sl, h'.get? b = some { o with slots := sl }
 free : ∀ b o, h.get? b = some o -> H b = none -> b ∉ ex -> H' b = none
 there : ∀ b o, h.get? b = some o -> b ∉ ex -> ∃ o', h'.get? b = some o'
 tups : ∀ b xs, H b = some (.tup xs) -> H' b = some (.tup xs)
 frzs : ∀ b o u, H b = some (.frz o u) -> H' b = some (.frz o u)
 tbls : ∀ b ps, H b = some (.tbl ps) -> ∃ more, H' b = some (.tbl (ps ++ more))
section
variable {fs fs' ex ex' : List Addr} {H H1 H2 : Hp} {h h1 h2 h' : Heap} {a x e : Addr} {o : HO}
theorem Un.any (u : Un fs ex H H1 h h1) {b : Addr} {ob : Obj} (q : h.get? b = some ob) (n : H b = none) (hx : b ∉ ex) : ∃ sl, h1.get? b = some { ob with slots := sl } := by
 by_cases hb : b ∈ fs
 ·exact u.slot b ob q n hb hx
 ·exact ⟨ob.slots, u.keep b ob q n hb hx⟩
theorem Un.trans (a : Un fs ex H H1 h h1) (b : Un fs ex H1 H2 h1 h2) : Un fs ex H H2 h h2 where
 keep := fun c ob q n hc hx => b.keep c ob (a.keep c ob q n hc hx) (a.free c ob q n hx) hc hx
 slot := fun c ob q n hc hx => by
  obtain ⟨sl, e1⟩ := a.slot c ob q n hc hx
  obtain ⟨sl', e2⟩ := b.slot c _ e1 (a.free c ob q n hx) hc hx
  exact ⟨sl', e2⟩
 free := fun c ob q n hx => by
  obtain ⟨o', e1⟩ := a.there c ob q hx
  exact b.free c o' e1 (a.free c ob q n hx) hx
 there := fun c ob q hx => by
  obtain ⟨o', e1⟩ := a.there c ob q hx
  exact b.there c o' e1 hx
 tups := fun c xs q => b.tups c xs (a.tups c xs q)
 frzs := fun c ob xs q => b.frzs c ob xs (a.frzs c ob xs q)
 tbls := fun c ps q => by
  obtain ⟨m1, e1⟩ := a.tbls c ps q
  obtain ⟨m2, e2⟩ := b.tbls c _ e1
  exact ⟨m1 ++ m2, by rw [e2, Array.append_assoc]⟩
theorem Un.kept (k : ∀ b u, h.get? b = some u -> h'.get? b = some u) : Un fs ex H H h h' :=
 ⟨fun b ob q _ _ _ => k b ob q, fun b ob q _ _ _ => ⟨ob.slots, k b ob q⟩, fun _ _ _ n _ => n, fun b ob q _ => ⟨ob, k b ob q⟩, fun _ _ q => q, fun _ _ _ q => q, fun _ ps q => ⟨#[], by rw [q]; simp⟩⟩
theorem Un.refl : Un fs ex H H h h := Un.kept fun _ _ q => q
theorem Un.laid (k : ∀ b u, h.get? b = some u -> h'.get? b = some u) (hp : h.objs.size <= a) (hn : H a = none) : Un fs ex H (upd H a o) h h' where
 keep := fun b u q _ _ _ => k b u q
 slot := fun b u q _ _ _ => ⟨u.slots, k b u q⟩
 free := fun b u q n _ => by rw [xa3 (Nat.ne_of_lt (Nat.lt_of_lt_of_le (Heap.lt_size q) hp))]; exact n
 there := fun b u q _ => ⟨u, k b u q⟩
 tups := fun b xs q => by rw [xa3 (xa7 q hn)]; exact q
 frzs := fun b u xs q => by rw [xa3 (xa7 q hn)]; exact q
 tbls := fun b ps q => ⟨#[], by rw [xa3 (xa7 q hn), q]; simp⟩
theorem Un.write (mu : Mut (H x)) (he : e = x \/ H e = some (.own x)) (k : ∀ b u, b ≠ e -> h.get? b = some u -> h'.get? b = some u) (heo : ∃ u, h'.get? e = some u) : Un fs ex H (upd H x o) h h' := by
 have hx : ∀ b, H b = none -> b ≠ x := fun b n z => by subst z; rw [n] at mu; exact mu
 have hb : ∀ b, H b = none -> b ≠ e := fun b n z => by
  subst z
  rcases he with r | r
  ·exact hx b n r
  ·rw [n] at r; cases r
 have hm : ∀ b u, H b = some u -> ¬ Mut (some u) -> b ≠ x := fun b u q nm z => by subst z; rw [q] at mu; exact nm mu
 refine ⟨fun b u q n _ _ => k b u (hb b n) q, fun b u q n _ _ => ⟨u.slots, k b u (hb b n) q⟩, fun b u q n _ => by rw [xa3 (hx b n)]; exact n, fun b u q _ => ?_,
  fun b xs q => by rw [xa3 (hm b _ q fun z => z)]; exact q, fun b u xs q => by rw [xa3 (hm b _ q fun z => z)]; exact q, fun b ps q => ⟨#[], by rw [xa3 (hm b _ q fun z => z), q]; simp⟩⟩
 by_cases hbe : b = e
 ·subst hbe; exact heo
 ·exact ⟨u, k b u hbe q⟩
theorem Un.mono (u : Un fs ex H H1 h h1) (hs : ∀ b ∈ fs, b ∈ fs') (hx : ∀ b ∈ ex, b ∈ ex') : Un fs' ex' H H1 h h1 :=
 ⟨fun b ob q n hb he => u.keep b ob q n (fun z => hb (hs b z)) fun z => he (hx b z), fun _ _ q n _ he => u.any q n fun z => he (hx _ z), fun b ob q n he => u.free b ob q n fun z => he (hx b z), fun b ob q he => u.there b ob q fun z => he (hx b z), u.tups, u.frzs, u.tbls⟩
end
def trk (h : Heap) (H : Hp) : List Addr := (List.range h.objs.size).filter fun a => (H a).isSome
def hidT (h : Heap) (H : Hp) : Heap := hideAll h (trk h H)
theorem zc9 (h : Heap) (H : Hp) : (hidT h H).objs.size = h.objs.size := hideAll_size _ _
theorem hidT_get {h : Heap} {H : Hp} {b : Addr} {o : Obj} (e : h.get? b = some o) (n : H b = none) : (hidT h H).get? b = some o :=
 hideAll_get _ e fun hm => by
  have q : (H b).isSome = true := (List.mem_filter.mp hm).2
  rw [n] at q; simp at q
theorem of_hidT {h : Heap} {H : Hp} {b : Addr} {o : Obj} (e : (hidT h H).get? b = some o) : h.get? b = some o /\ H b = none := by
 have e' : h.get? b = some o := of_hideAll (trk h H) e
 refine ⟨e', ?_⟩
 cases q : H b with
 | none => rfl
 | some x =>
  have hm : b ∈ trk h H := List.mem_filter.mpr ⟨List.mem_range.mpr (Heap.lt_size e'), by simp [q]⟩
  have z : (hidT h H).get? b = none := hideAll_none (trk h H) hm
  rw [z] at e; cases e
def allNews (g h : Heap) (L : Addr) : List (Addr × Obj) := (List.range h.objs.size).filterMap fun a => if a = L \/ (g.get? a).isSome = true then none else (h.get? a).map fun o => (a, o)
def rest (g h : Heap) (L d : Addr) : List (Addr × Obj) := (allNews g h L).filter fun p => decide (p.1 ≠ d)
structure Mod (K : Frag) (mg : Str -> Option Value) (base : Heap) : Prop where
 kin : K.In base
 glob : base.Ns mainGlobals mg
 blt : ∃ mb, base.Ns builtinsNs mb /\ ∀ x : Str, x ≠ "__name__" -> mb x = bootBuiltins x
 nolimit : base.NoLimit
structure Cx where
 prog : Program
 w : World
 K : Frag
 mg : Str -> Option Value
 base : Heap
 A : Around
 N : List Str
 s₀ : Shared
 H₀ : Hp
 env : Env
 outer : List Env
 stack : List Env
 ex : List Addr
 fn : Str -> Bool
 calm : Bool
 pn : List (Addr × Obj)
 xe : Value -> Shared -> Prop
def frs (l : List Env) : List Addr := l.filterMap (·.frame)
abbrev Cx.fs (X : Cx) : List Addr := frs X.outer
def Vis (sc : Scope) (x : Str) : Prop := sc.names.lookup x = some .local \/ sc.names.lookup x = some .cell \/ sc.names.lookup x = some .free
def Loc (sc : Scope) (x : Str) : Prop := sc.names.lookup x = some .local \/ sc.names.lookup x = some .cell
def Look (env : Env) (h : Heap) (m : Str -> Option Value) (x : Str) (u : Value) : Prop :=
 (env.kindOf x = some .local /\ m x = some u) \/ ((env.kindOf x = some .cell \/ env.kindOf x = some .free) /\ ∃ c, env.cells.lookup x = some c /\ h.IsCell c (some u))
structure Cx.Ok (X : Cx) : Prop where
 mod : Mod X.K X.mg X.base
 kind : X.env.scope.kind = .function
 glob : X.env.globals = mainGlobals
 blt : X.env.builtins = builtinsNs
 above : X.s₀.heap.objs.size <= X.env.locals
 inj : ∀ x y c, X.env.cells.lookup x = some c -> X.env.cells.lookup y = some c -> x = y
 has : ∀ x, (X.env.kindOf x = some .cell \/ X.env.kindOf x = some .free) -> ∃ c, X.env.cells.lookup x = some c
 cab : ∀ x c, X.fn x = true -> X.env.cells.lookup x = some c -> X.s₀.heap.objs.size <= c
 hd : X.calm = true -> X.A.handled = none
 frames : X.A.frames = some X.stack
 stk : X.stack = X.outer \/ (X.stack = X.env :: X.outer /\ X.env.frame = some X.env.locals)
 exf : ∀ b ∈ X.ex, b ≠ X.env.locals /\ ∀ x c, X.env.cells.lookup x = some c -> c ≠ b
 bs : ∀ b o, X.base.get? b = some o -> X.s₀.heap.get? b = some o /\ X.H₀ b = none
 bsz : X.base.objs.size <= X.s₀.heap.objs.size
 noex : ∀ b o, X.base.get? b = some o -> b ∉ X.ex
 exfs : ∀ b ∈ X.ex, b ∉ X.fs
 funs : X.s₀.heap.FunFrames X.base X.outer
 frf : ∀ b ∈ X.fs, X.H₀ b = none
structure Inv (X : Cx) (pins : List (Addr × Obj)) (σ : List (Option V)) (H : Hp) (s : Shared) : Prop where
 ok : X.Ok
 os : s.os = X.s₀.os
 bare : AllBare s.gens
 base : Un X.fs X.ex X.H₀ H X.s₀.heap s.heap
 loc : ∃ m, s.heap.Ns X.env.locals m /\ ∀ (i : Nat) (x : Str) (v : V), X.N[i]? = some x -> σ[i]? = some (some v) -> Vis X.env.scope x -> ∃ u, RelV v u /\ Look X.env s.heap m x u
 cell : ∀ x c, X.env.cells.lookup x = some c -> ∃ v, s.heap.IsCell c v
 free : H X.env.locals = none
 freeC : ∀ x c, X.env.cells.lookup x = some c -> H c = none
 pin : ∀ p ∈ X.pn ++ pins, s.heap.get? p.1 = some p.2 /\ H p.1 = none /\ p.1 ≠ X.env.locals /\ p.1 ∉ X.fs /\ ∀ v, p.2.data ≠ .cell v
 hok : HOk X.prog X.w H s.heap
 len : σ.length = X.N.length
section
variable {X : Cx} {pins : List (Addr × Obj)} {σ : List (Option V)} {H H' : Hp} {s : Shared} {h' : Heap}
theorem Cx.Ok.nofr (ok : X.Ok) {b : Addr} {o : Obj} (e : X.base.get? b = some o) : b ∉ X.fs := fun hb => by
 have := (ok.funs.mem hb).1
 rw [e] at this; cases this
theorem Inv.bs (I : Inv X pins σ H s) : ∀ b o, X.base.get? b = some o -> s.heap.get? b = some o /\ H b = none := fun b o e =>
 ⟨I.base.keep b o (I.ok.bs b o e).1 (I.ok.bs b o e).2 (I.ok.nofr e) (I.ok.noex b o e), I.base.free b o (I.ok.bs b o e).1 (I.ok.bs b o e).2 (I.ok.noex b o e)⟩
theorem Inv.bk (I : Inv X pins σ H s) : ∀ b o, X.base.get? b = some o -> s.heap.get? b = some o := fun b o e => (I.bs b o e).1
theorem Inv.mod (I : Inv X pins σ H s) : Mod X.K X.mg X.base := I.ok.mod
theorem Inv.kIn (I : Inv X pins σ H s) : X.K.In s.heap := I.ok.mod.kin.keeps I.bk
theorem Inv.nolimit (I : Inv X pins σ H s) : s.heap.NoLimit := I.ok.mod.nolimit.keeps I.bk
theorem Inv.lt (I : Inv X pins σ H s) : X.env.locals < s.heap.objs.size := let ⟨_, hn, _⟩ := I.loc; hn.lt
theorem Inv.sz (I : Inv X pins σ H s) : X.s₀.heap.objs.size <= s.heap.objs.size := Nat.le_trans I.ok.above (Nat.le_of_lt I.lt)
theorem Inv.nofs (I : Inv X pins σ H s) {a : Addr} (h : s.heap.objs.size <= a) : a ∉ X.fs := fun hb => by
 obtain ⟨_, o, ho, _⟩ := I.ok.funs.mem hb
 exact absurd (Nat.lt_of_lt_of_le (Heap.lt_size ho) (Nat.le_trans I.sz h)) (Nat.lt_irrefl _)
theorem Inv.cne (I : Inv X pins σ H s) : ∀ x c, X.env.cells.lookup x = some c -> c ≠ X.env.locals := fun x c e z => by
 obtain ⟨v, o, ho, hd⟩ := I.cell x c e
 obtain ⟨m, ⟨o', es, ep, ho', hd', _⟩, _⟩ := I.loc
 rw [z, ho'] at ho; cases ho; rw [hd'] at hd; cases hd
theorem Inv.funs (I : Inv X pins σ H s) : s.heap.FunFrames X.base X.outer := by
 have all : ∀ (l : List Env), (∀ b ∈ frs l, b ∈ X.fs) -> X.s₀.heap.FunFrames X.base l -> s.heap.FunFrames X.base l := by
  intro l
  induction l with
  | nil => intro _ _; trivial
  | cons env r ih =>
   intro hs hl
   obtain ⟨hk, ⟨L, o, hf, hn, ho, hd⟩, hr⟩ := hl
   have hL : L ∈ X.fs := hs L (by unfold frs; rw [List.filterMap_cons, hf]; exact List.mem_cons_self)
   obtain ⟨sl, e⟩ := I.base.slot L o ho (I.ok.frf L hL) hL fun z => I.ok.exfs L z hL
   exact ⟨hk, ⟨L, _, hf, hn, e, hd⟩, ih (fun b hb => hs b (by unfold frs; rw [List.filterMap_cons, hf]; exact List.mem_cons_of_mem _ hb)) hr⟩
 exact all X.outer (fun _ hb => hb) I.ok.funs
theorem Inv.stack (I : Inv X pins σ H s) : s.heap.FunFrames X.base X.stack := by
 rcases I.ok.stk with e | ⟨e, hf⟩
 ·rw [e]; exact I.funs
 ·rw [e]
  obtain ⟨m, hn, _⟩ := I.loc
  refine .cons (by rw [I.ok.kind]; decide) hf hn ?_ I.funs
  exact Heap.get?_none_of_le (Nat.le_trans I.ok.bsz I.ok.above)
theorem Inv.stkSub (I : Inv X pins σ H s) : ∀ b ∈ frs X.stack, b ∈ X.env.locals :: X.fs := fun b hb => by
 rcases I.ok.stk with e | ⟨e, hf⟩
 ·rw [e] at hb; exact List.mem_cons_of_mem _ hb
 ·rw [e] at hb
  unfold frs at hb
  rw [List.filterMap_cons, hf] at hb
  exact hb
theorem Inv.stkFree (I : Inv X pins σ H s) : ∀ b ∈ frs X.stack, H b = none := fun b hb => by
 rcases List.mem_cons.mp (I.stkSub b hb) with e | hb
 ·rw [e]; exact I.free
 ·obtain ⟨_, o, ho, _⟩ := I.ok.funs.mem hb
  exact I.base.free b o ho (I.ok.frf b hb) fun z => I.ok.exfs b z hb
theorem Inv.step {g' : Array GenState} {t' : Nat} {d' : Drawn} {ch : List Addr} (I : Inv X pins σ H s)
  (hch : ∀ b ∈ ch, (b ∈ X.ex \/ X.s₀.heap.objs.size <= b) /\ b ≠ X.env.locals /\ (∀ x c, X.env.cells.lookup x = some c -> c ≠ b) /\ ∀ p ∈ X.pn ++ pins, p.1 ≠ b)
  (keep : ∀ b o, b ≠ X.env.locals -> b ∉ X.fs -> b ∉ ch -> s.heap.get? b = some o -> H b = none -> h'.get? b = some o)
  (slot : ∀ b o, b ≠ X.env.locals -> b ∈ X.fs -> b ∉ ch -> s.heap.get? b = some o -> H b = none -> ∃ sl, h'.get? b = some { o with slots := sl }) (free : ∀ b o, b ∉ ch -> s.heap.get? b = some o -> H b = none -> H' b = none)
  (there : ∀ b o, b ∉ ch -> s.heap.get? b = some o -> ∃ o', h'.get? b = some o')
  (tups : ∀ b xs, H b = some (.tup xs) -> H' b = some (.tup xs)) (frzs : ∀ b o u, H b = some (.frz o u) -> H' b = some (.frz o u)) (tbls : ∀ b ps, H b = some (.tbl ps) -> ∃ more, H' b = some (.tbl (ps ++ more)))
  (ns : ∀ m, s.heap.Ns X.env.locals m -> h'.Ns X.env.locals m) (hok : HOk X.prog X.w H' h') (hg : AllBare g') :
  Inv X pins σ H' { s with heap := h', gens := g', drawn := d', toks := t' } := by
 have neL : ∀ b o, X.s₀.heap.get? b = some o -> b ≠ X.env.locals := fun b o e => Nat.ne_of_lt (Nat.lt_of_lt_of_le (Heap.lt_size e) I.ok.above)
 have neC : ∀ b o, X.s₀.heap.get? b = some o -> b ∉ X.ex -> b ∉ ch := fun b o e hx hb => by
  rcases (hch b hb).1 with z | z
  ·exact hx z
  ·exact absurd (Nat.lt_of_lt_of_le (Heap.lt_size e) z) (Nat.lt_irrefl _)
 have cellK : ∀ x c, X.env.cells.lookup x = some c -> ∀ v, s.heap.IsCell c v -> h'.IsCell c v := fun x c e v ⟨o, ho, hd⟩ => by
  have nch : c ∉ ch := fun z => (hch c z).2.2.1 x c e rfl
  by_cases hc : c ∈ X.fs
  ·obtain ⟨sl, q⟩ := slot c o (I.cne x c e) hc nch ho (I.freeC x c e)
   exact ⟨_, q, hd⟩
  ·exact ⟨o, keep c o (I.cne x c e) hc nch ho (I.freeC x c e), hd⟩
 refine ⟨I.ok, I.os, hg, ⟨fun b o e n hb hx => ?_, fun b o e n hb hx => ?_, fun b o e n hx => ?_, fun b o e hx => ?_, fun b xs e => tups b xs (I.base.tups b xs e), fun b o xs e => frzs b o xs (I.base.frzs b o xs e), fun b ps e => ?_⟩, ?_, fun x c e => ?_, ?_, fun x c e => ?_, fun p hp => ?_, hok, I.len⟩
 ·exact keep b o (neL b o e) hb (neC b o e hx) (I.base.keep b o e n hb hx) (I.base.free b o e n hx)
 ·obtain ⟨sl, e1⟩ := I.base.slot b o e n hb hx
  obtain ⟨sl', e2⟩ := slot b _ (neL b o e) hb (neC b o e hx) e1 (I.base.free b o e n hx)
  exact ⟨sl', e2⟩
 ·obtain ⟨o', e1⟩ := I.base.there b o e hx
  exact free b o' (neC b o e hx) e1 (I.base.free b o e n hx)
 ·obtain ⟨o', e1⟩ := I.base.there b o e hx
  exact there b o' (neC b o e hx) e1
 ·obtain ⟨m1, e1⟩ := I.base.tbls b ps e
  obtain ⟨m2, e2⟩ := tbls b _ e1
  exact ⟨m1 ++ m2, by rw [e2, Array.append_assoc]⟩
 ·obtain ⟨m, hn, hl⟩ := I.loc
  refine ⟨m, ns m hn, fun i x v e1 e2 e3 => ?_⟩
  obtain ⟨u, r, l⟩ := hl i x v e1 e2 e3
  refine ⟨u, r, ?_⟩
  rcases l with l | ⟨k, c, e, z⟩
  ·exact .inl l
  ·exact .inr ⟨k, c, e, cellK x c e _ z⟩
 ·obtain ⟨v, z⟩ := I.cell x c e
  exact ⟨v, cellK x c e v z⟩
 ·obtain ⟨m, ⟨o, _, _, ho, _⟩, _⟩ := I.loc
  exact free _ o (fun z => (hch _ z).2.1 rfl) ho I.free
 ·obtain ⟨v, o, ho, hd⟩ := I.cell x c e
  exact free c o (fun z => (hch c z).2.2.1 x c e rfl) ho (I.freeC x c e)
 ·obtain ⟨e, n, ne, nf, d⟩ := I.pin p hp
  have nch : p.1 ∉ ch := fun z => (hch p.1 z).2.2.2 p hp rfl
  exact ⟨keep p.1 p.2 ne nf nch e n, free p.1 p.2 nch e n, ne, nf, d⟩
theorem Inv.un {t' : Nat} (I : Inv X pins σ H s) (u : Un X.fs [] H H' s.heap h') (hok : HOk X.prog X.w H' h') : Inv X pins σ H' { s with heap := h', toks := t' } := by
 obtain ⟨m, ⟨o, es, ep, ho, r⟩, _⟩ := id I.loc
 obtain ⟨sl, hL⟩ := u.any ho I.free (by simp)
 exact I.step (g' := s.gens) (d' := s.drawn) (ch := []) (fun _ z => nomatch z) (fun b o _ hb _ e n => u.keep b o e n hb (by simp)) (fun b o _ hb _ e n => u.slot b o e n hb (by simp)) (fun b o _ e n => u.free b o e n (by simp)) (fun b o _ e => u.there b o e (by simp)) u.tups u.frzs u.tbls (fun m' hm => by
  obtain ⟨o', es', ep', ho', r'⟩ := hm
  rw [ho] at ho'; cases ho'
  exact ⟨_, es', ep', hL, r'⟩) hok I.bare
theorem Inv.call {g' : Array GenState} {t' : Nat} {d' : Drawn} {ch : List Addr} (I : Inv X pins σ H s) (u : Un (frs X.stack) ch H H' s.heap h') (hok : HOk X.prog X.w H' h') (hg : AllBare g')
  (hch : ∀ b ∈ ch, (b ∈ X.ex \/ X.s₀.heap.objs.size <= b) /\ b ≠ X.env.locals /\ (∀ x c, X.env.cells.lookup x = some c -> c ≠ b) /\ ∀ p ∈ X.pn ++ pins, p.1 ≠ b) :
  Inv X pins σ H' { s with heap := h', gens := g', drawn := d', toks := t' } := by
 obtain ⟨m, ⟨o, es, ep, ho, r⟩, _⟩ := id I.loc
 obtain ⟨sl, hL⟩ := u.any ho I.free fun z => (hch _ z).2.1 rfl
 exact I.step (ch := ch) hch (fun b o hL hb hc e n => u.keep b o e n (fun z => (List.mem_cons.mp (I.stkSub b z)).elim hL hb) hc) (fun b o _ _ hc e n => u.any e n hc) (fun b o hc e n => u.free b o e n hc) (fun b o hc e => u.there b o e hc) u.tups u.frzs u.tbls (fun m' hm => by
  obtain ⟨o', es', ep', ho', r'⟩ := hm
  rw [ho] at ho'; cases ho'
  exact ⟨_, es', ep', hL, r'⟩) hok hg
theorem Inv.turned {t' : Nat} {it : Addr} (I : Inv X pins σ H s) (k : ∀ b o, b ≠ it -> s.heap.get? b = some o -> h'.get? b = some o) (hn : H it = none) (hL : it ≠ X.env.locals)
  (h1 : it ∈ X.ex \/ X.s₀.heap.objs.size <= it) (h2 : ∀ x c, X.env.cells.lookup x = some c -> c ≠ it) (h3 : ∀ p ∈ X.pn ++ pins, p.1 ≠ it) : Inv X pins σ H { s with heap := h', toks := t' } := by
 have nit : ∀ b u, H b = some u -> b ≠ it := fun b u e z => by rw [z, hn] at e; cases e
 refine I.step (g' := s.gens) (d' := s.drawn) (ch := [it]) (fun b hb => ?_) (fun b o _ _ hc e _ => k b o (fun z => hc (by simp [z])) e) (fun b o _ _ hc e _ => ⟨o.slots, k b o (fun z => hc (by simp [z])) e⟩) (fun _ _ _ _ n => n)
  (fun b o hc e => ⟨o, k b o (fun z => hc (by simp [z])) e⟩) (fun _ _ e => e) (fun _ _ _ e => e) (fun b ps e => ⟨#[], by rw [e]; simp⟩) (fun m hm => ?_) (fun b u e => ?_) I.bare
 ·have e : b = it := by simpa using hb
  subst e
  exact ⟨h1, hL, h2, h3⟩
 ·obtain ⟨o, es, ep, ho, r⟩ := hm
  exact ⟨o, es, ep, k _ o (Ne.symm hL) ho, r⟩
 ·refine (I.hok b u e).stay (fun c v hc q => k c v ?_ q) (fun _ q => q) fun _ _ q => q
  rcases hc with z | z
  ·rw [z]; exact nit b u e
  ·exact nit c _ z
theorem Inv.tok (I : Inv X pins σ H s) (t : Nat) : Inv X pins σ H { s with toks := t } := I.un (h' := s.heap) (t' := t) Un.refl I.hok
theorem Inv.kept {t' : Nat} (I : Inv X pins σ H s) (k : ∀ b u, s.heap.get? b = some u -> h'.get? b = some u) : Inv X pins σ H { s with heap := h', toks := t' } := I.un (Un.kept k) (I.hok.kept k)
theorem Inv.laid {a : Addr} {o : HO} {t' : Nat} (I : Inv X pins σ H s) (k : ∀ b u, s.heap.get? b = some u -> h'.get? b = some u) (hp : s.heap.objs.size <= a) (new : xd4 X.prog X.w (upd H a o) h' a o) :
  Inv X pins σ (upd H a o) { s with heap := h', toks := t' } := I.un (Un.laid k hp (I.hok.fresh hp)) (I.hok.laid k hp new)
theorem Inv.write {x e : Addr} {o : HO} {t' : Nat} (I : Inv X pins σ H s) (mu : Mut (H x)) (he : e = x \/ H e = some (.own x)) (k : ∀ b u, b ≠ e -> s.heap.get? b = some u -> h'.get? b = some u) (heo : ∃ u, h'.get? e = some u)
  (new : xd4 X.prog X.w (upd H x o) h' x o) : Inv X pins σ (upd H x o) { s with heap := h', toks := t' } := I.un (Un.write mu he k heo) (I.hok.write mu he k heo new)
theorem Inv.pins_of {pins' : List (Addr × Obj)} (I : Inv X pins σ H s) (h : ∀ p ∈ pins', s.heap.get? p.1 = some p.2 /\ H p.1 = none /\ p.1 ≠ X.env.locals /\ p.1 ∉ X.fs /\ ∀ v, p.2.data ≠ .cell v) : Inv X pins' σ H s :=
 ⟨I.ok, I.os, I.bare, I.base, I.loc, I.cell, I.free, I.freeC, fun p hp => (List.mem_append.mp hp).elim (fun z => I.pin p (List.mem_append_left _ z)) (h p), I.hok, I.len⟩
theorem ye5 {N : List Str} (hN : N.Nodup) {i j : Nat} {x : Str} (a : N[i]? = some x) (b : N[j]? = some x) : i = j := by
 obtain ⟨h1, e1⟩ := List.getElem?_eq_some_iff.mp a
 obtain ⟨h2, e2⟩ := List.getElem?_eq_some_iff.mp b
 exact (List.getElem_inj hN).mp (e1.trans e2.symm)
theorem yx4 {M : Model} {A : Around} {E : Value -> Shared -> Prop} {i : Nat} {x : Str} {v : V} {u : Value} {Q : Unit -> Shared -> Prop} (I : Inv X pins σ H s) (hN : X.N.Nodup) (hi : X.N[i]? = some x) (hx : Loc X.env.scope x) (r : RelV v u)
  (h : ∀ s', Inv X pins (σ.set i (some v)) H s' -> (∃ a, Heap.SameBut a s.heap s'.heap /\ (a = X.env.locals \/ X.env.cells.lookup x = some a)) -> Q () s') (hf : X.fn x = true \/ X.env.scope.names.lookup x = some .local := by first | exact .inl rfl | exact .inr rfl | assumption) : wpAny M A (storeName X.env x u) Q E s := by
 obtain ⟨m, hn, hl⟩ := id I.loc
 have hcls : (X.env.scope.kind == .class || (X.env.scope.kind == .module && X.env.locals != X.env.globals)) = false := by rw [I.ok.kind]; rfl
 have hiσ : i < σ.length := by rw [I.len]; exact (List.getElem?_eq_some_iff.mp hi).1
 have cne := I.cne
 have tracked : ∀ {a : Addr} {h' : Heap}, (∃ o, s.heap.get? a = some o /\ H a = none) -> Heap.SameBut a s.heap h' -> HOk X.prog X.w H h' := fun {a h'} ha hs b ob e => by
  obtain ⟨_, _, hfree⟩ := ha
  refine (I.hok b ob e).stay (fun c w' hc q => (hs.2 c ?_).trans q) (fun _ q => q) fun _ _ q => q
  rintro rfl
  rcases hc with rfl | hc
  ·rw [hfree] at e; cases e
  ·rw [hfree] at hc; cases hc
 rcases hx with hk | hk
 ·refine wpAny_storeName_local hk hn (fun h' hn' hs => ?_) hcls
  obtain ⟨oL, _, _, hoL, _⟩ := id hn
  refine h _ ⟨I.ok, I.os, I.bare, ⟨fun b o e n hb hx => ?_, fun b o e n hb hx => ?_, I.base.free, fun b o e hx => ?_, I.base.tups, I.base.frzs, I.base.tbls⟩, ⟨_, hn', fun j y v' e1 e2 e3 => ?_⟩, fun y c e => ?_, I.free, I.freeC, fun p hp => ?_, tracked ⟨oL, hoL, I.free⟩ hs, by simpa using I.len⟩ ⟨_, hs, .inl rfl⟩
  ·exact (hs.2 b (Nat.ne_of_lt (Nat.lt_of_lt_of_le (Heap.lt_size e) I.ok.above))).trans (I.base.keep b o e n hb hx)
  ·obtain ⟨sl, e1⟩ := I.base.slot b o e n hb hx
   exact ⟨sl, (hs.2 b (Nat.ne_of_lt (Nat.lt_of_lt_of_le (Heap.lt_size e) I.ok.above))).trans e1⟩
  ·obtain ⟨o', e1⟩ := I.base.there b o e hx
   exact ⟨o', (hs.2 b (Nat.ne_of_lt (Nat.lt_of_lt_of_le (Heap.lt_size e) I.ok.above))).trans e1⟩
  ·by_cases hj : j = i
   ·subst hj
    rw [hi] at e1; cases e1
    rw [List.getElem?_set_self hiσ] at e2
    cases e2
    exact ⟨u, r, .inl ⟨hk, by simp⟩⟩
   ·rw [List.getElem?_set_ne (Ne.symm hj)] at e2
    obtain ⟨u', r', q⟩ := hl j y v' e1 e2 e3
    refine ⟨u', r', ?_⟩
    rcases q with ⟨k, e⟩ | ⟨k, c, e, z⟩
    ·refine .inl ⟨k, ?_⟩
     have : y ≠ x := fun e => hj (ye5 hN e1 (e ▸ hi))
     simp [this, e]
    ·exact .inr ⟨k, c, e, z.sameBut hs (cne y c e)⟩
  ·obtain ⟨w', z⟩ := I.cell y c e
   exact ⟨w', z.sameBut hs (cne y c e)⟩
  ·obtain ⟨e, n, ne, nf, d⟩ := I.pin p hp
   exact ⟨(hs.2 p.1 ne).trans e, n, ne, nf, d⟩
 ·have hfn : X.fn x = true := by
   rcases hf with z | z
   ·exact z
   ·rw [z] at hk; cases hk
  obtain ⟨c, hc⟩ := I.ok.has x (.inl hk)
  obtain ⟨w', z⟩ := I.cell x c hc
  refine wpAny_storeName_cell I.ok.kind hk hc z (fun h' hc' hs => ?_)
  obtain ⟨oc, hoc, hocd⟩ := id z
  refine h { s with heap := h' } ⟨I.ok, I.os, I.bare, ⟨fun b o e n hb hx => ?_, fun b o e n hb hx => ?_, I.base.free, fun b o e hx => ?_, I.base.tups, I.base.frzs, I.base.tbls⟩, ⟨m, hn.sameBut hs (Ne.symm (cne x c hc)), fun j y v' e1 e2 e3 => ?_⟩, fun y c' e => ?_, I.free, I.freeC, fun p hp => ?_, tracked ⟨oc, hoc, I.freeC x c hc⟩ hs, by simpa using I.len⟩ ⟨c, hs, .inr hc⟩
  ·exact (hs.2 b (Nat.ne_of_lt (Nat.lt_of_lt_of_le (Heap.lt_size e) (I.ok.cab x c hfn hc)))).trans (I.base.keep b o e n hb hx)
  ·obtain ⟨sl, e1⟩ := I.base.slot b o e n hb hx
   exact ⟨sl, (hs.2 b (Nat.ne_of_lt (Nat.lt_of_lt_of_le (Heap.lt_size e) (I.ok.cab x c hfn hc)))).trans e1⟩
  ·obtain ⟨o', e1⟩ := I.base.there b o e hx
   exact ⟨o', (hs.2 b (Nat.ne_of_lt (Nat.lt_of_lt_of_le (Heap.lt_size e) (I.ok.cab x c hfn hc)))).trans e1⟩
  ·by_cases hj : j = i
   ·subst hj
    rw [hi] at e1; cases e1
    rw [List.getElem?_set_self hiσ] at e2
    cases e2
    exact ⟨u, r, .inr ⟨.inl hk, c, hc, hc'⟩⟩
   ·rw [List.getElem?_set_ne (Ne.symm hj)] at e2
    obtain ⟨u', r', q⟩ := hl j y v' e1 e2 e3
    refine ⟨u', r', ?_⟩
    rcases q with q | ⟨k, c', e, z'⟩
    ·exact .inl q
    ·refine .inr ⟨k, c', e, z'.sameBut hs ?_⟩
     rintro rfl
     exact hj (ye5 hN e1 (I.ok.inj _ _ _ e hc ▸ hi))
  ·by_cases hcc : c' = c
   ·subst hcc; exact ⟨_, hc'⟩
   ·obtain ⟨w2, z2⟩ := I.cell y c' e
    exact ⟨w2, z2.sameBut hs hcc⟩
  ·obtain ⟨e, n, ne, nf, d⟩ := I.pin p hp
   refine ⟨(hs.2 p.1 ?_).trans e, n, ne, nf, d⟩
   intro q
   rw [q, hoc] at e
   have q' : oc = p.2 := Option.some.inj e
   exact d w' (by rw [<- q']; exact hocd)
theorem yd3 {M : Model} {A : Around} {E : Value -> Shared -> Prop} {i : Nat} {x : Str} {v : V} {u : Value} {Q : Unit -> Shared -> Prop} (I : Inv X pins σ H s) (hN : X.N.Nodup) (hi : X.N[i]? = some x) (hx : Loc X.env.scope x) (r : RelV v u)
  (h : ∀ s', Inv X pins (σ.set i (some v)) H s' -> Q () s') (hf : X.fn x = true \/ X.env.scope.names.lookup x = some .local := by first | exact .inl rfl | exact .inr rfl | assumption) : wpAny M A (storeName X.env x u) Q E s :=
 yx4 I hN hi hx r (fun s' I' _ => h s' I') hf
theorem Inv.call' {s' : Shared} {ch : List Addr} (I : Inv X pins σ H s) (ho : s'.os = s.os) (u : Un (frs X.stack) ch H H' s.heap s'.heap) (hok : HOk X.prog X.w H' s'.heap) (hg : AllBare s'.gens)
  (hch : ∀ b ∈ ch, (b ∈ X.ex \/ X.s₀.heap.objs.size <= b) /\ b ≠ X.env.locals /\ (∀ x c, X.env.cells.lookup x = some c -> c ≠ b) /\ ∀ p ∈ X.pn ++ pins, p.1 ≠ b) : Inv X pins σ H' s' := by
 obtain ⟨h', g', d', t', o'⟩ := s'
 have e : o' = s.os := ho
 subst e
 exact I.call (g' := g') (t' := t') (d' := d') u hok hg hch
end
abbrev XK := Value -> Option Addr -> Hp -> Prop
abbrev St := List (Option V)
abbrev VK := V -> Hp -> Prop
abbrev TE := St -> Hp -> VK -> Prop
abbrev TT := St -> Hp -> (Bool -> Hp -> Prop) -> Prop
abbrev TA := St -> Hp -> (List V -> Hp -> Prop) -> Prop
structure Ends where
 nx : St -> Hp -> Prop
 rt : VK
 bk : St -> Hp -> Prop := fun _ _ => False
 ct : St -> Hp -> Prop := fun _ _ => False
abbrev TS := Ends -> St -> Hp -> Prop
def EP (X : Cx) (pins : List (Addr × Obj)) (σ : St) (Q : VK) (u : Value) (s' : Shared) : Prop := ∃ v H', Inv X pins σ H' s' /\ RelV v u /\ Q v H'
def TP (X : Cx) (pins : List (Addr × Obj)) (σ : St) (Q : Bool -> Hp -> Prop) (b : Bool) (s' : Shared) : Prop := ∃ H', Inv X pins σ H' s' /\ Q b H'
def AP (X : Cx) (pins : List (Addr × Obj)) (σ : St) (Q : List V -> Hp -> Prop) (us : List Value) (s' : Shared) : Prop := ∃ vs H', Inv X pins σ H' s' /\ Vals vs us /\ Q vs H'
def SP (X : Cx) (pins : List (Addr × Obj)) (D : Ends) (f : Flow) (s' : Shared) : Prop :=
 match f with
 | .next => ∃ σ' H', Inv X pins σ' H' s' /\ D.nx σ' H'
 | .brk => ∃ σ' H', Inv X pins σ' H' s' /\ D.bk σ' H'
 | .cont => ∃ σ' H', Inv X pins σ' H' s' /\ D.ct σ' H'
 | .ret u => ∃ v σ' H', Inv X pins σ' H' s' /\ RelV v u /\ D.rt v H'
def PE (X : Cx) (e : Expr) (t : TE) : Prop :=
 ∀ (pins : List (Addr × Obj)) (s : Shared) (σ : St) (H : Hp) (Q : VK), Inv X pins σ H s -> t σ H Q -> wpAny (model X.prog X.w) X.A (eval e X.env) (EP X pins σ Q) X.xe s
def PT (X : Cx) (e : Expr) (t : TT) : Prop :=
 ∀ (pins : List (Addr × Obj)) (s : Shared) (σ : St) (H : Hp) (Q : Bool -> Hp -> Prop), Inv X pins σ H s -> t σ H Q -> wpAny (model X.prog X.w) X.A (isTrue e X.env (eval e X.env)) (TP X pins σ Q) X.xe s
def PW (X : Cx) (e : Expr) (t : TT) : Prop :=
 ∀ (whole : Sem Value) (pins : List (Addr × Obj)) (s : Shared) (σ : St) (H : Hp) (Q : Bool -> Hp -> Prop), Inv X pins σ H s -> t σ H Q -> wpAny (model X.prog X.w) X.A (isTrue e X.env whole) (TP X pins σ Q) X.xe s
theorem PW.pt {X : Cx} {e : Expr} {t : TT} (h : PW X e t) : PT X e t := h _
def PA (X : Cx) (es : List Expr) (t : TA) : Prop :=
 ∀ (pos : Pos) (pins : List (Addr × Obj)) (s : Shared) (σ : St) (H : Hp) (Q : List V -> Hp -> Prop), Inv X pins σ H s -> t σ H Q -> wpAny (model X.prog X.w) X.A (spliced (backTo pos (starEach es X.env))) (AP X pins σ Q) X.xe s
def PS (X : Cx) (st : Stmt) (t : TS) : Prop :=
 ∀ (pins : List (Addr × Obj)) (s : Shared) (σ : St) (H : Hp) (D : Ends), Inv X pins σ H s -> t D σ H -> wpAny (model X.prog X.w) X.A (exec st X.env) (SP X pins D) X.xe s
def PSs (X : Cx) (st : List Stmt) (t : TS) : Prop :=
 ∀ (pins : List (Addr × Obj)) (s : Shared) (σ : St) (H : Hp) (D : Ends), Inv X pins σ H s -> t D σ H -> wpAny (model X.prog X.w) X.A (execs st X.env) (SP X pins D) X.xe s
theorem thn {α : Type} {t : Sem α} {Q Q' : α -> Shared -> Prop} {M : Model} {A : Around} {E : Value -> Shared -> Prop} {s : Shared} (h : wpAny M A t Q E s) (hQ : ∀ a s, Q a s -> Q' a s) : wpAny M A t Q' E s := wpAny_mono h hQ fun _ _ x => x
section
variable {X : Cx}
def tVar (i : Nat) : TE := fun σ H Q => ∃ v, σ[i]? = some (some v) /\ Q v H
def tC (v : V) : TE := fun _ H Q => Q v H
theorem pe_var {i : Nat} {x : Str} {pos : Pos} (hN : X.N[i]? = some x) (hv : Vis X.env.scope x) (hd : (x == ("__debug__" : Str)) = false := by decide) (hcd : (x == ("__classdict__" : Str)) = false := by decide) : PE X (.Name x pos) (tVar i) := by
 intro pins s σ H Q I h
 obtain ⟨v, e, h⟩ := h
 obtain ⟨m, hn, hl⟩ := I.loc
 obtain ⟨u, r, l⟩ := hl i x v hN e hv
 have fin : EP X pins σ Q u s := ⟨v, H, I, r, h⟩
 rcases l with ⟨hk, hm⟩ | ⟨hk, c, hc, hcell⟩
 ·exact wpAny_Name (wpAny_loadName_local I.ok.kind hk hn hm fin) hd
 ·rcases hk with hk | hk
  ·exact wpAny_Name (wpAny_loadName_cell I.ok.kind hk hc hcell fin) hd
  ·exact wpAny_Name (wpAny_loadName_free I.ok.kind hk hc hcell fin hcd) hd
theorem xb1 {i j pos} : PE X (.Constant (.int i) j pos) (tC (.int i)) := fun _ _ _ H _ I h => wpAny_Constant_int ⟨.int i, H, I.tok _, ⟨_, rfl⟩, h⟩
theorem xj5 {b j pos} : PE X (.Constant (.bool b) j pos) (tC (.bl b)) := fun _ _ _ H _ I h => Constant_bool ⟨.bl b, H, I, rfl, h⟩
theorem ya9 {j pos} : PE X (.Constant .none j pos) (tC .non) := fun _ _ _ H _ I h => Constant_none ⟨.non, H, I, rfl, h⟩
theorem xe1 {x j pos} : PE X (.Constant (.str x) j pos) (tC (.str x)) := fun _ _ _ H _ I h => Calls.Constant_str ⟨.str x, H, I.tok _, ⟨_, rfl⟩, h⟩
def Gl (X : Cx) (x : Str) : Prop := X.env.kindOf x = some .globalImplicit
theorem xm8 {E : Value -> Shared -> Prop} {pins : List (Addr × Obj)} {s : Shared} {σ : St} {H : Hp} {x : Str} {u : Value} {pos : Pos} {Q : Value -> Shared -> Prop} (I : Inv X pins σ H s) (hg : Gl X x) (hm : X.mg x = some u) (h : Q u s)
  (hd : (x == ("__debug__" : Str)) = false := by decide) : wpAny (model X.prog X.w) X.A (eval (.Name x pos) X.env) Q E s :=
 Calls.Name_function_global I.ok.kind hg (Calls.loadGlobal_global (by rw [I.ok.glob]; exact I.mod.glob.keeps I.bk) hm h) hd
theorem yc0 {E : Value -> Shared -> Prop} {pins : List (Addr × Obj)} {s : Shared} {σ : St} {H : Hp} {x : Str} {u : Value} {pos : Pos} {Q : Value -> Shared -> Prop} (I : Inv X pins σ H s) (hg : Gl X x) (hm : X.mg x = none) (hv : bootBuiltins x = some u) (h : Q u s)
  (hn : x ≠ "__name__" := by decide) (hd : (x == ("__debug__" : Str)) = false := by decide) : wpAny (model X.prog X.w) X.A (eval (.Name x pos) X.env) Q E s := by
 obtain ⟨mb, h1, h2⟩ := I.mod.blt
 exact Calls.Name_function_global I.ok.kind hg (Calls.loadGlobal_builtin (by rw [I.ok.glob]; exact I.mod.glob.keeps I.bk) hm (by rw [I.ok.blt]; exact h1.keeps I.bk) ((h2 x hn).trans hv) h) hd
theorem xk7 {x : Str} {v : V} {u : Value} {pos : Pos} (hg : Gl X x) (hm : X.mg x = some u) (r : RelV v u) (hd : (x == ("__debug__" : Str)) = false := by decide) : PE X (.Name x pos) (tC v) :=
 fun _ _ _ H _ I h => xm8 I hg hm ⟨v, H, I, r, h⟩ hd
theorem pe_bltn {x : Str} {v : V} {u : Value} {pos : Pos} (hg : Gl X x) (hm : X.mg x = none) (hv : bootBuiltins x = some u) (r : RelV v u) (hn : x ≠ "__name__" := by decide) (hd : (x == ("__debug__" : Str)) = false := by decide) : PE X (.Name x pos) (tC v) :=
 fun _ _ _ H _ I h => yc0 I hg hm hv ⟨v, H, I, r, h⟩ hn hd
variable {a b : Expr} {ta tb : TE} {pos : Pos}
def PC (X : Cx) (op : CmpOp) (a b : Expr) (t : TE) : Prop :=
 ∀ (pins : List (Addr × Obj)) (s : Shared) (σ : St) (H : Hp) (Q : VK), Inv X pins σ H s -> t σ H Q ->
  wpAny (model X.prog X.w) X.A (eval a X.env) (fun v s₁ => wpAny (model X.prog X.w) X.A (eval b X.env) (fun u s₂ => wpAny (model X.prog X.w) X.A (compareOp op v u) (EP X pins σ Q) X.xe s₂) X.xe s₁) X.xe s
theorem yq0 (b : Expr) {op : CmpOp} (h : op ≠ .In) (h2 : op ≠ .NotIn) : behindInMarks op b = false := by
 have e1 : (op == CmpOp.In) = false := by cases op <;> first | rfl | exact absurd rfl h
 have e2 : (op == CmpOp.NotIn) = false := by cases op <;> first | rfl | exact absurd rfl h2
 cases b <;> simp [behindInMarks, e1, e2]
def tNotN (ta : TE) : TE := fun σ H Q => ta σ H fun x H1 => Q (.bl (!decide (x = .non))) H1
theorem RelV.none_iff {x : V} {v : Value} (r : RelV x v) : (v == Value.none) = decide (x = .non) := by
 cases x with
 | non => cases r; rfl
 | bl _ => cases r; rfl
 | int _ => obtain ⟨t, rfl⟩ := r; rfl
 | str _ => obtain ⟨t, rfl⟩ := r; rfl
 | byt _ => obtain ⟨t, rfl⟩ := r; rfl
 | flt _ => obtain ⟨t, rfl⟩ := r; rfl
 | ref _ => cases r; rfl
 | ty _ => cases r; rfl
theorem za2 {j pos'} (ha : PE X a ta) : PC X .IsNot a (.Constant .none j pos') (tNotN ta) := by
 intro pins s σ H Q I h
 refine thn (ha pins s σ H _ I h) fun v s1 ⟨x, H1, I1, r1, q1⟩ => ?_
 exact Constant_none (isnot_none_gen ⟨.bl _, H1, I1, by rw [r1.none_iff]; rfl, q1⟩)
def tB (t : TE) : TT := fun σ H Q => t σ H fun x H1 => ∃ c, x = .bl c /\ Q c H1
theorem pe_cmp {op : CmpOp} {t : TE} (h : PC X op a b t) (h1 : behindInMarks op b = false := by first | exact yq0 _ (by decide) (by decide) | rfl) : PE X (.Compare a [op] [b] pos) t := fun pins s σ H Q I hw => wpAny_Compare1 (h pins s σ H Q I hw) h1
theorem pt_cmp {op : CmpOp} {t : TE} (h : PC X op a b t) (h1 : behindInMarks op b = false := by first | exact yq0 _ (by decide) (by decide) | rfl) : PT X (.Compare a [op] [b] pos) (tB t) := by
 intro pins s σ H Q I hw
 refine wpAny_isTrue_Compare1 (thn (h pins s σ H _ I hw) fun v s1 h1 => thn h1 fun u s2 h2 => thn h2 fun c s3 ⟨x, H1, I1, r1, q1⟩ => ?_) h1
 obtain ⟨d, rfl, q⟩ := q1
 cases r1
 exact wpAny_truthy_bool ⟨H1, I1, q⟩
theorem xe0 {e : Expr} {t : TE} (h : PE X e t) (he : ∀ whole, isTrue e X.env whole = (do let v <- whole; standAt e.pos; holding [v] (truthy v)) := by intro _; rfl) : PT X e (tB t) := by
 intro pins s σ H Q I hw
 refine isTrue_plain (thn (h pins s σ H _ I hw) fun v s1 ⟨x, H1, I1, r1, q1⟩ => ?_) (he _)
 obtain ⟨d, rfl, q⟩ := q1
 cases r1
 exact wpAny_truthy_bool ⟨H1, I1, q⟩
variable {tA tB' : TT} {rest : List Expr}
def tAnd (t u : TT) : TT := fun σ H Q => t σ H fun c H1 => if c = true then u σ H1 Q else Q false H1
def tOr (t u : TT) : TT := fun σ H Q => t σ H fun c H1 => if c = true then Q true H1 else u σ H1 Q
def tNot (t : TT) : TT := fun σ H Q => t σ H fun c H1 => Q (!c) H1
theorem pw_and1 (ha : PT X a tA) : PW X (.BoolOp .And [a] pos) tA := by
 intro wh pins s σ H Q I h
 refine isTrue_and (thn (ha pins s σ H Q I h) fun c s1 e => ?_)
 cases c with
 | true => exact isTrue_and_nil e
 | false => exact e
theorem xv9 (ha : PT X a tA) : PW X (.BoolOp .Or [a] pos) tA := by
 intro wh pins s σ H Q I h
 refine isTrue_or (thn (ha pins s σ H Q I h) fun c s1 e => ?_)
 cases c with
 | false => exact isTrue_or_nil e
 | true => exact e
theorem pw_and (ha : PT X a tA) (hb : PW X (.BoolOp .And (b :: rest) pos) tB') : PW X (.BoolOp .And (a :: b :: rest) pos) (tAnd tA tB') := by
 intro wh pins s σ H Q I h
 refine isTrue_and (thn (ha pins s σ H _ I h) fun c s1 ⟨H1, I1, q1⟩ => ?_)
 cases c with
 | true => exact hb wh pins s1 σ H1 Q I1 q1
 | false => exact ⟨H1, I1, q1⟩
theorem ym4 (ha : PT X a tA) (hb : PW X (.BoolOp .Or (b :: rest) pos) tB') : PW X (.BoolOp .Or (a :: b :: rest) pos) (tOr tA tB') := by
 intro wh pins s σ H Q I h
 refine isTrue_or (thn (ha pins s σ H _ I h) fun c s1 ⟨H1, I1, q1⟩ => ?_)
 cases c with
 | true => exact ⟨H1, I1, q1⟩
 | false => exact hb wh pins s1 σ H1 Q I1 q1
theorem xf1 (ha : PT X a tA) : PT X (.UnaryOp .Not a pos) (tNot tA) := by
 intro pins s σ H Q I h
 exact isTrue_not (ha pins s σ H (fun c H1 => Q (!c) H1) I h)
def tAndV (ta tb : TE) : TE := fun σ H Q => ta σ H fun x H1 => ∃ c, x = .bl c /\ if c = true then tb σ H1 Q else Q (.bl false) H1
def tNotV (ta : TE) : TE := fun σ H Q => ta σ H fun x H1 => ∃ c, x = .bl c /\ Q (.bl (!c)) H1
theorem xn6 {op} {t : TE} (h : PE X a t) : PE X (.BoolOp op [a] pos) t := fun pins s σ H Q I hw => BoolOp_one (h pins s σ H Q I hw)
theorem xn1 (ha : PE X a ta) (hb : PE X (.BoolOp .And (b :: rest) pos) tb) : PE X (.BoolOp .And (a :: b :: rest) pos) (tAndV ta tb) := by
 intro pins s σ H Q I h
 refine BoolOp_and (thn (ha pins s σ H _ I h) fun v s1 ⟨x, H1, I1, r1, q1⟩ => ?_)
 obtain ⟨c, rfl, q1⟩ := q1
 cases r1
 refine wpAny_truthy_bool ?_
 cases c with
 | true => exact hb pins s1 σ H1 Q I1 q1
 | false => exact ⟨.bl false, H1, I1, rfl, q1⟩
theorem pe_not (ha : PE X a ta) : PE X (.UnaryOp .Not a pos) (tNotV ta) := by
 intro pins s σ H Q I h
 refine UnaryOp_ (thn (ha pins s σ H _ I h) fun v s1 ⟨x, H1, I1, r1, q1⟩ => ?_)
 obtain ⟨c, rfl, q1⟩ := q1
 cases r1
 exact not_of (wpAny_truthy_bool ⟨.bl (!c), H1, I1, rfl, q1⟩)
end
def SqL (K : Frag) (H : Hp) (a : Addr) (xs : List V) : Prop :=
 Rd H a (.lst xs) \/
  ∃ (o : Obj) (its : Array Value) (n : Nat), K.lookup a = some o /\ o.cls = .type "list" /\ o.dict = none /\ o.data = .seq its n /\ its.size <= sizeLine /\ Vals xs its.toList
def SqT (K : Frag) (H : Hp) (a : Addr) (xs : List V) : Prop :=
 Rd H a (.tup xs) \/
  ∃ (o : Obj) (its : Array Value) (n : Nat), K.lookup a = some o /\ o.cls = .type "tuple" /\ o.data = .seq its n /\ its.size <= sizeLine /\ Vals xs its.toList
def absV : Value -> Option V
 | .none => some .non
 | .bool b => some (.bl b)
 | .int i _ => some (.int i)
 | .str x _ => some (.str x)
 | .bytes b _ => some (.byt b)
 | .float b _ => some (.flt b)
 | .ref a => some (.ref a)
 | .type n => some (.ty n)
 | _ => none
theorem RelV.abs {x : V} {u : Value} (r : RelV x u) : absV u = some x := by
 cases x with
 | non => cases r; rfl
 | bl _ => cases r; rfl
 | int _ => obtain ⟨t, rfl⟩ := r; rfl
 | str _ => obtain ⟨t, rfl⟩ := r; rfl
 | byt _ => obtain ⟨t, rfl⟩ := r; rfl
 | flt _ => obtain ⟨t, rfl⟩ := r; rfl
 | ref _ => cases r; rfl
 | ty _ => cases r; rfl
theorem RelV.inj {x y : V} {u : Value} (r : RelV x u) (q : RelV y u) : x = y := Option.some.inj (r.abs.symm.trans q.abs)
theorem Vals.inj : ∀ {xs ys : List V} {us : List Value}, Vals xs us -> Vals ys us -> xs = ys
 | _, _, _, .nil, .nil => rfl
 | _, _, _, .cons r t, .cons r' t' => by rw [r.inj r', Vals.inj t t']
section
variable {X : Cx} {pins : List (Addr × Obj)} {σ : St} {H : Hp} {s : Shared} {a : Addr} {xs ys : List V}
theorem SqL.of {K : Frag} (h : H a = some (.lst xs)) : SqL K H a xs := .inl (.inl h)
theorem SqT.of {K : Frag} (h : H a = some (.tup xs)) : SqT K H a xs := .inl (.inl h)
theorem Inv.list (I : Inv X pins σ H s) (h : SqL X.K H a xs) : ∃ its : List Value, Vals xs its /\ PlainL s.heap a its.toArray /\ xs.length <= sizeLine := by
 rcases h with h | ⟨o, its, n, hk, hc, hd, hs, hz, r⟩
 ·obtain ⟨z, its, n, r, e⟩ := h.ok I.hok
  exact ⟨its, r, ⟨_, n, e, rfl, rfl, rfl⟩, z⟩
 ·refine ⟨its.toList, r, ⟨o, n, I.kIn a o hk, hc, hd, by simpa using hs⟩, ?_⟩
  have e := r.length
  simp only [Array.length_toList] at e
  omega
theorem Inv.tuple (I : Inv X pins σ H s) (h : SqT X.K H a xs) : ∃ its : List Value, Vals xs its /\ IsTup s.heap a its.toArray /\ xs.length <= sizeLine := by
 rcases h with h | ⟨o, its, n, hk, hc, hs, hz, r⟩
 ·obtain ⟨z, its, r, p⟩ := h.ok I.hok
  exact ⟨its, r, p, z⟩
 ·refine ⟨its.toList, r, ⟨o, I.kIn a o hk, hc, n, by simpa using hs⟩, ?_⟩
  have e := r.length
  simp only [Array.length_toList] at e
  omega
theorem Inv.list_inj (I : Inv X pins σ H s) (h : SqL X.K H a xs) (h' : SqL X.K H a ys) : xs = ys := by
 obtain ⟨its, r, ⟨o, n, e, _, _, d⟩, _⟩ := I.list h
 obtain ⟨its', r', ⟨o', n', e', _, _, d'⟩, _⟩ := I.list h'
 rw [e] at e'; cases e'
 rw [d] at d'
 injection d' with d1 _
 have : its = its' := by simpa using congrArg Array.toList d1
 subst this
 exact r.inj r'
theorem Inv.tuple_inj (I : Inv X pins σ H s) (h : SqT X.K H a xs) (h' : SqT X.K H a ys) : xs = ys := by
 obtain ⟨its, r, ⟨o, e, _, n, d⟩, _⟩ := I.tuple h
 obtain ⟨its', r', ⟨o', e', _, n', d'⟩, _⟩ := I.tuple h'
 rw [e] at e'; cases e'
 rw [d] at d'
 injection d' with d1 _
 have : its = its' := by simpa using congrArg Array.toList d1
 subst this
 exact r.inj r'
end
abbrev Cx.wish (X : Cx) (E : Value -> Shared -> Prop) : Cx := { X with xe := E }
abbrev Cx.nox (X : Cx) : Cx := X.wish fun _ _ => False
theorem Cx.Ok.wish {X : Cx} (ok : X.Ok) (E : Value -> Shared -> Prop) : (X.wish E).Ok :=
 ⟨ok.mod, ok.kind, ok.glob, ok.blt, ok.above, ok.inj, ok.has, ok.cab, ok.hd, ok.frames, ok.stk, ok.exf, ok.bs, ok.bsz, ok.noex, ok.exfs, ok.funs, ok.frf⟩
theorem Cx.Ok.unwish {X : Cx} {E : Value -> Shared -> Prop} (ok : (X.wish E).Ok) : X.Ok :=
 ⟨ok.mod, ok.kind, ok.glob, ok.blt, ok.above, ok.inj, ok.has, ok.cab, ok.hd, ok.frames, ok.stk, ok.exf, ok.bs, ok.bsz, ok.noex, ok.exfs, ok.funs, ok.frf⟩
section
variable {X : Cx} {pins : List (Addr × Obj)} {σ : St} {H : Hp} {s : Shared} {E : Value -> Shared -> Prop}
theorem Inv.wish (I : Inv X pins σ H s) (E : Value -> Shared -> Prop) : Inv (X.wish E) pins σ H s := ⟨I.ok.wish E, I.os, I.bare, I.base, I.loc, I.cell, I.free, I.freeC, I.pin, I.hok, I.len⟩
theorem Inv.unwish (I : Inv (X.wish E) pins σ H s) : Inv X pins σ H s := ⟨I.ok.unwish, I.os, I.bare, I.base, I.loc, I.cell, I.free, I.freeC, I.pin, I.hok, I.len⟩
theorem SP.unwish {D : Ends} {f : Flow} {s' : Shared} (h : SP (X.wish E) pins D f s') : SP X pins D f s' := by
 cases f with
 | next => obtain ⟨σ', H', I, q⟩ := h; exact ⟨σ', H', I.unwish, q⟩
 | brk => obtain ⟨σ', H', I, q⟩ := h; exact ⟨σ', H', I.unwish, q⟩
 | cont => obtain ⟨σ', H', I, q⟩ := h; exact ⟨σ', H', I.unwish, q⟩
 | ret u => obtain ⟨v, σ', H', I, r, q⟩ := h; exact ⟨v, σ', H', I.unwish, r, q⟩
theorem PE.nox {e : Expr} {t : TE} (h : PE X.nox e t) : PE X e t := fun pins s σ H Q I hw =>
 wpAny_mono (h pins s σ H Q (I.wish _) hw) (fun _ _ ⟨v, H', I', r, q⟩ => ⟨v, H', I'.unwish, r, q⟩) fun _ _ z => False.elim z
theorem PT.nox {e : Expr} {t : TT} (h : PT X.nox e t) : PT X e t := fun pins s σ H Q I hw =>
 wpAny_mono (h pins s σ H Q (I.wish _) hw) (fun _ _ ⟨H', I', q⟩ => ⟨H', I'.unwish, q⟩) fun _ _ z => False.elim z
theorem PSs.nox {st : List Stmt} {t : TS} (h : PSs X.nox st t) : PSs X st t := fun pins s σ H D I hw =>
 wpAny_mono (h pins s σ H D (I.wish _) hw) (fun _ _ q => q.unwish) fun _ _ z => False.elim z
end
section
variable {X : Cx} {st : Stmt} {rest : List Stmt} {t u : TS} {e : Expr} {te : TE} {pos : Pos}
def tNext : TS := fun D σ H => D.nx σ H
def tSeq (t u : TS) : TS := fun D σ H => t { D with nx := u D } σ H
theorem xb7 : PSs X [] tNext := fun _ _ σ H _ I h => wpAny_execs_nil ⟨σ, H, I, h⟩
theorem xa5 (h1 : PS X st t) (h2 : PSs X rest u) : PSs X (st :: rest) (tSeq t u) := by
 intro pins s σ H D I h
 refine wpAny_execs_cons (thn (h1 pins s σ H { D with nx := u D } I h) fun f s1 q => ?_)
 cases f with
 | next =>
  obtain ⟨σ', H', I', q⟩ := q
  exact h2 pins s1 σ' H' D I' q
 | ret v => exact q
 | brk => exact q
 | cont => exact q
theorem xa6 (h1 : PS X st t) : PSs X [st] t := by
 intro pins s σ H D I h
 refine wpAny_execs_cons (thn (h1 pins s σ H D I h) fun f s1 q => ?_)
 cases f with
 | next => exact wpAny_execs_nil q
 | ret v => exact q
 | brk => exact q
 | cont => exact q
def tBreak : TS := fun D σ H => D.bk σ H
def tCont : TS := fun D σ H => D.ct σ H
theorem ps_break : PS X (.Break pos) tBreak := fun _ _ σ H _ I h => wpAny_Break ⟨σ, H, I, h⟩
theorem xw0 : PS X (.Continue pos) tCont := fun _ _ σ H _ I h => wpAny_Continue ⟨σ, H, I, h⟩
theorem Inv.quiet {pins : List (Addr × Obj)} {σ : St} {H : Hp} {s : Shared} (I : Inv X pins σ H s) : interactive X.env = false := by simp [interactive, I.ok.kind]
def tDrop (te : TE) : TS := fun D σ H => te σ H fun _ H1 => D.nx σ H1
theorem xg8 (he : PE X e te) (hs : swapsWith e none pos.line X.env = pure false := by rfl) : PS X (.Expr e pos) (tDrop te) := by
 intro pins s σ H D I h
 exact wpAny_Expr_any (thn (he pins s σ H _ I h) fun v s1 ⟨x, H1, I1, r1, q1⟩ => ⟨σ, H1, I1, q1⟩) I.quiet hs
def tRet (te : TE) : TS := fun D σ H => te σ H D.rt
theorem xc0 (he : PE X e te) : PS X (.Return (some e) pos) (tRet te) := by
 intro pins s σ H D I h
 exact wpAny_Return_some (thn (he pins s σ H _ I h) fun v s1 ⟨x, H1, I1, r1, q1⟩ => ⟨x, σ, H1, I1, r1, q1⟩)
def tIfS (c : TT) (t u : TS) : TS := fun D σ H => c σ H fun b H1 => if b = true then t D σ H1 else u D σ H1
theorem xe5 {c : Expr} {a b : List Stmt} {tc : TT} (hc : PT X c tc) (ha : PSs X a t) (hb : PSs X b u) : PS X (.If c a b pos) (tIfS tc t u) := by
 intro pins s σ H D I h
 refine wpAny_If (thn (hc pins s σ H _ I h) fun d s1 ⟨H1, I1, q1⟩ => ?_)
 cases d with
 | true => exact ha pins s1 σ H1 D I1 q1
 | false => exact hb pins s1 σ H1 D I1 q1
def tNever : TS := fun _ _ _ => False
theorem xm4 : PS X st tNever := fun _ _ _ _ _ _ h => h.elim
theorem yz1 {sts : List Stmt} : PSs X sts tNever := fun _ _ _ _ _ _ h => h.elim
end
abbrev TG := V -> St -> Hp -> (St -> Hp -> Prop) -> Prop
abbrev TGs := List V -> St -> Hp -> (St -> Hp -> Prop) -> Prop
def PG (X : Cx) (target : Expr) (t : TG) : Prop :=
 ∀ (pins : List (Addr × Obj)) (s : Shared) (σ : St) (H : Hp) (v : V) (u : Value) (Q : St -> Hp -> Prop), Inv X pins σ H s -> RelV v u -> t v σ H Q ->
  wpAny (model X.prog X.w) X.A (assign target X.env u) (fun _ s' => ∃ σ' H', Inv X pins σ' H' s' /\ Q σ' H') X.xe s
def PGs (X : Cx) (ts : List Expr) (t : TGs) : Prop :=
 ∀ (pins : List (Addr × Obj)) (s : Shared) (σ : St) (H : Hp) (vs : List V) (us : List Value) (Q : St -> Hp -> Prop), Inv X pins σ H s -> Vals vs us -> t vs σ H Q ->
  wpAny (model X.prog X.w) X.A (assignInOrder ((assignEach ts X.env).map (·.2)) us) (fun _ s' => ∃ σ' H', Inv X pins σ' H' s' /\ Q σ' H') X.xe s
section
variable {X : Cx} {pos : Pos}
def gName (i : Nat) : TG := fun v σ H Q => Q (σ.set i (some v)) H
theorem xc3 {i : Nat} {x : Str} (hN : X.N.Nodup) (hi : X.N[i]? = some x) (hx : Loc X.env.scope x) (hf : X.fn x = true \/ X.env.scope.names.lookup x = some .local := by first | exact .inl rfl | exact .inr rfl | assumption) : PG X (.Name x pos) (gName i) := by
 intro pins s σ H v u Q I r h
 exact wpAny_assign_Name (yd3 I hN hi hx r (fun s' I' => ⟨_, H, I', h⟩) hf)
def gNil : TGs := fun vs σ H Q => vs = [] /\ Q σ H
def gCons (t : TG) (u : TGs) : TGs := fun vs σ H Q => ∃ v r, vs = v :: r /\ t v σ H fun σ' H' => u r σ' H' Q
theorem yd8 : PGs X [] gNil := by
 intro pins s σ H vs us Q I r h
 obtain ⟨e, h⟩ := h
 subst e
 cases r
 exact assignInOrder_nil ⟨σ, H, I, h⟩
theorem xk3 {e : Expr} {es : List Expr} {t : TG} {u : TGs} (h1 : PG X e t) (h2 : PGs X es u)
  (hs : (assignEach (e :: es) X.env).map (·.2) = assign e X.env :: (assignEach es X.env).map (·.2) := by rfl) : PGs X (e :: es) (gCons t u) := by
 intro pins s σ H vs us Q I r h
 obtain ⟨v, vr, e1, h⟩ := h
 subst e1
 cases r with
 | cons r rr =>
  rw [hs]
  refine assignInOrder_cons (thn (h1 pins s σ H _ _ _ I r h) fun _ s1 ⟨σ1, H1, I1, q1⟩ => ?_)
  exact h2 pins s1 σ1 H1 _ _ Q I1 rr q1
def gTup (K : Frag) (n : Nat) (t : TGs) : TG := fun v σ H Q => ∃ a xs, v = .ref a /\ SqT K H a xs /\ xs.length = n /\ t xs σ H Q
theorem pg_tup {es : List Expr} {k : Nat} {t : TGs} {n : Nat} (hc : X.calm = true) (h : PGs X es t)
  (hn : (assignEach es X.env).length = n := by rfl) (hst : (assignEach es X.env).findIdx? (·.1) = none := by rfl) : PG X (.Tuple es k pos) (gTup X.K n t) := by
 intro pins s σ H v u Q I r hw
 obtain ⟨a, xs, e1, hq, hl, hw⟩ := hw
 subst e1
 cases r
 obtain ⟨its, rv, ht, hz⟩ := I.tuple hq
 refine assign_Tuple_tuple (I.ok.hd hc) ht (by simp [hn, <- hl, rv.length]) hst fun h' hx => ?_
 have I1 : Inv X pins σ H { s with heap := h' } := I.kept (t' := s.toks) fun b o e => hx b o (Nat.ne_of_lt (Heap.lt_size e)) e
 exact h pins _ σ H xs _ Q I1 (by simpa using rv) hw
def tAsg (te : TE) (g : TG) : TS := fun D σ H => te σ H fun x H1 => g x σ H1 D.nx
theorem xc2 {i : Nat} {x : Str} {e : Expr} {te : TE} {pos' : Pos} (hN : X.N.Nodup) (hi : X.N[i]? = some x) (hx : Loc X.env.scope x) (he : PE X e te) (hs : swapsWith e (some (.Name x pos')) pos.line X.env = pure false := by rfl) (hf : X.fn x = true \/ X.env.scope.names.lookup x = some .local := by first | exact .inl rfl | exact .inr rfl | assumption) :
  PS X (.Assign [.Name x pos'] e pos) (tAsg te (gName i)) := by
 intro pins s σ H D I h
 refine wpAny_Assign_Name (thn (he pins s σ H _ I h) fun v s1 ⟨y, H1, I1, r1, q1⟩ => ?_) hs
 exact yd3 I1 hN hi hx r1 (fun s2 I2 => ⟨_, H1, I2, q1⟩) hf
end
section
variable {X : Cx} {pos : Pos}
end
structure It where
 go : Nat -> Hp -> Prop
 yld : Nat -> Hp -> V -> Hp -> Prop
 stop : Nat -> Hp -> Prop
def FpOk (X : Cx) (pins : List (Addr × Obj)) (H : Hp) (b : Addr) : Prop :=
 H b = none /\ b ≠ X.env.locals /\ b ∉ X.fs /\ (b ∈ X.ex \/ X.s₀.heap.objs.size <= b) /\ (∀ x c, X.env.cells.lookup x = some c -> c ≠ b) /\ ∀ p ∈ X.pn ++ pins, p.1 ≠ b
theorem Inv.fpOk {X : Cx} {pins : List (Addr × Obj)} {σ : St} {H H' : Hp} {s : Shared} {b : Addr} (I : Inv X pins σ H s) (hb : s.heap.objs.size <= b) (hn : H' b = none) : FpOk X pins H' b := by
 refine ⟨hn, Nat.ne_of_gt (Nat.lt_of_lt_of_le I.lt hb), I.nofs hb, .inr (Nat.le_trans I.sz hb), fun x c e z => ?_, fun p hp z => ?_⟩
 ·obtain ⟨v, q⟩ := I.cell x c e
  exact absurd (Nat.lt_of_lt_of_le q.lt (by rw [z]; exact hb)) (Nat.lt_irrefl _)
 ·exact absurd (Nat.lt_of_lt_of_le (Heap.lt_size (I.pin p hp).1) (by rw [z]; exact hb)) (Nat.lt_irrefl _)
structure Turn (P : Program) (w : World) (K : Frag) (tg : Expr) (J : It) (fp : List Addr) (it : Addr) (tn : Nat -> Heap -> Prop) : Prop where
 mem : it ∈ fp
 obj : ∀ i h, tn i h -> ∀ b ∈ fp, ∃ o, h.get? b = some o /\ ∀ v, o.data ≠ .cell v
 keep : ∀ i h h', tn i h -> (∀ b ∈ fp, ∀ o, h.get? b = some o -> h'.get? b = some o) -> tn i h'
 item : ∀ (X : Cx), X.prog = P -> X.w = w -> X.K = K -> X.calm = true -> ∀ (i : Nat) (pins : List (Addr × Obj)) (s : Shared) (σ : St) (H : Hp) (E : Value -> Shared -> Prop), Inv X pins σ H s -> (∀ b ∈ fp, FpOk X pins H b) -> tn i s.heap -> J.go i H ->
  wpAny (model P w) X.A (pyNext (.ref it)) (fun r s1 => ∃ u, r = some u /\
   wpAny (model P w) X.A (letOwnedTupleGo tg (.ref it) u) (fun _ s2 => ∃ x H', Inv X pins σ H' s2 /\ RelV x u /\ J.yld i H x H' /\ tn (i + 1) s2.heap /\ ∀ b ∈ fp, H' b = none) E s1) E s
 done : ∀ (X : Cx), X.prog = P -> X.w = w -> X.K = K -> X.calm = true -> ∀ (i : Nat) (pins : List (Addr × Obj)) (s : Shared) (σ : St) (H : Hp) (E : Value -> Shared -> Prop), Inv X pins σ H s -> (∀ b ∈ fp, FpOk X pins H b) -> tn i s.heap -> J.stop i H ->
  wpAny (model P w) X.A (pyNext (.ref it)) (fun r s1 => r = none /\ Inv X pins σ H s1) E s
 self : ∀ (A : Around) (i : Nat) (s : Shared) (Q : Value -> Shared -> Prop) (E : Value -> Shared -> Prop), tn i s.heap -> Q (.ref it) s -> wpAny (model P w) A (pyIter (.ref it)) Q E s
abbrev TI := St -> Hp -> (It -> Hp -> Prop) -> Prop
def PIE (X : Cx) (pins : List (Addr × Obj)) (σ : St) (tg : Expr) (R : It -> Hp -> Prop) (itv : Value) (s2 : Shared) : Prop :=
 ∃ (it : Addr) (fp : List Addr) (tn : Nat -> Heap -> Prop) (J : It) (H' : Hp), itv = .ref it /\ Inv X pins σ H' s2 /\ Turn X.prog X.w X.K tg J fp it tn /\ tn 0 s2.heap /\ (∀ b ∈ fp, FpOk X pins H' b) /\ R J H'
def PI (X : Cx) (tg iter : Expr) (wi : TI) : Prop :=
 ∀ (pins : List (Addr × Obj)) (s : Shared) (σ : St) (H : Hp) (R : It -> Hp -> Prop), Inv X pins σ H s -> wi σ H R ->
  wpAny (model X.prog X.w) X.A (eval iter X.env) (fun v s1 => wpAny (model X.prog X.w) X.A (pyIter v) (PIE X pins σ tg R) X.xe s1) X.xe s
theorem yn9 {M : Model} {A : Around} {E : Value -> Shared -> Prop} {s : Shared} {tg : Expr} {it : Addr} {u : Value} {o : Obj} {n : String} {vs : Array Value} {Q : Unit -> Shared -> Prop} (ho : s.heap.get? it = some o) (hc : o.cls = .type n) (hd : o.data = .fields vs)
    (hn : ["enumerate", "zip", "dict_itemiterator", "dict_reverseitemiterator", "odict_iterator", "itertools.zip_longest", "itertools.pairwise"].contains n = false) (hQ : Q () s) : wpAny M A (letOwnedTupleGo tg (.ref it) u) Q E s := by
  unfold letOwnedTupleGo
  cases tg <;> first
    | exact wpAny_pure hQ
    | (cases u <;> first
        | exact wpAny_pure hQ
        | (refine wpAny_bind (wpAny_load ho ?_)
           rw [hc, hd]
           show wpAny M A (if (["enumerate", "zip", "dict_itemiterator", "dict_reverseitemiterator", "odict_iterator", "itertools.zip_longest", "itertools.pairwise"].contains n && vs[0]? == some (rawInt _)) = true then _ else _) Q E s
           rw [if_neg (by intro h; rw [hn, Bool.false_and] at h; cases h)]
           exact wpAny_pure hQ))
def Itl (K : Frag) (a : Addr) : It :=
 ⟨fun i H => ∃ xs x, SqL K H a xs /\ xs[i]? = some x, fun i H x H' => H' = H /\ ∀ xs, SqL K H a xs -> xs[i]? = some x, fun i H => ∃ xs, SqL K H a xs /\ xs.length <= i⟩
def Itt (K : Frag) (a : Addr) : It :=
 ⟨fun i H => ∃ xs x, SqT K H a xs /\ xs[i]? = some x, fun i H x H' => H' = H /\ ∀ xs, SqT K H a xs -> xs[i]? = some x, fun i H => ∃ xs, SqT K H a xs /\ xs.length <= i⟩
def Itr (lo : Int) (n : Nat) : It := ⟨fun i _ => i < n, fun i H x H' => H' = H /\ x = .int (lo + i), fun i _ => n <= i⟩
theorem yw7 {P : Program} {w : World} {K : Frag} {tg : Expr} (a it : Addr) : Turn P w K tg (Itl K a) [it] it (fun i h => h.IsListIter it a i) where
 mem := by simp
 obj := fun i h st b hb => by
  have e : b = it := by simpa using hb
  subst e
  obtain ⟨o, e, c, d⟩ := st
  exact ⟨o, e, fun v z => by rw [d] at z; cases z⟩
 keep := fun i h h' st k => st.at fun o e => k it (by simp) o e
 item := by
  intro X hP hw hK hc i pins s σ H E I hf st hg
  subst hP hw hK
  obtain ⟨xs, x, hq, hx⟩ := hg
  obtain ⟨its, rv, p, hz⟩ := I.list hq
  obtain ⟨u, hu, ru⟩ := rv.get hx
  obtain ⟨f0, f1, f2, f3, f4, f5⟩ := hf it (by simp)
  refine wpAny_pyNext_list_item st p.isList (x := u) (by simpa using hu) fun h' st' sb => ?_
  have I1 : Inv X pins σ H { s with heap := h' } := I.turned (t' := s.toks) (fun b o hb e => (sb.2 b hb).trans e) f0 f1 f3 f4 f5
  obtain ⟨o, e, c, d⟩ := id st'
  exact ⟨u, rfl, yn9 (s := { s with heap := h' }) e c d (by decide) ⟨x, H, I1, ru, ⟨rfl, fun ys hy => by rw [I.list_inj hy hq]; exact hx⟩, st', fun b hb => (hf b hb).1⟩⟩
 done := by
  intro X hP hw hK hc i pins s σ H E I hf st hg
  subst hP hw hK
  obtain ⟨xs, hq, hx⟩ := hg
  obtain ⟨its, rv, p, hz⟩ := I.list hq
  obtain ⟨f0, f1, f2, f3, f4, f5⟩ := hf it (by simp)
  have hl := rv.length
  exact wpAny_pyNext_list_end (I.ok.hd hc) st p.isList (by simp; omega) fun h' eb => ⟨rfl, I.turned (t' := s.toks) (fun b o hb e => eb b o hb e) f0 f1 f3 f4 f5⟩
 self := fun _ _ _ _ _ st h => wpAny_pyIter_listiter st h
theorem yr9 {P : Program} {w : World} {K : Frag} {tg : Expr} (a it : Addr) : Turn P w K tg (Itt K a) [it] it (fun i h => h.IsTupleIter it a i) where
 mem := by simp
 obj := fun i h st b hb => by
  have e : b = it := by simpa using hb
  subst e
  obtain ⟨o, e, c, d⟩ := st
  exact ⟨o, e, fun v z => by rw [d] at z; cases z⟩
 keep := fun i h h' st k => st.at fun o e => k it (by simp) o e
 item := by
  intro X hP hw hK hc i pins s σ H E I hf st hg
  subst hP hw hK
  obtain ⟨xs, x, hq, hx⟩ := hg
  obtain ⟨its, rv, p, hz⟩ := I.tuple hq
  obtain ⟨u, hu, ru⟩ := rv.get hx
  obtain ⟨f0, f1, f2, f3, f4, f5⟩ := hf it (by simp)
  refine wpAny_pyNext_tuple_item st (show s.heap.IsTuple a its.toArray from p) (x := u) (by simpa using hu) fun h' st' sb => ?_
  have I1 : Inv X pins σ H { s with heap := h' } := I.turned (t' := s.toks) (fun b o hb e => (sb.2 b hb).trans e) f0 f1 f3 f4 f5
  obtain ⟨o, e, c, d⟩ := id st'
  exact ⟨u, rfl, yn9 (s := { s with heap := h' }) e c d (by decide) ⟨x, H, I1, ru, ⟨rfl, fun ys hy => by rw [I.tuple_inj hy hq]; exact hx⟩, st', fun b hb => (hf b hb).1⟩⟩
 done := by
  intro X hP hw hK hc i pins s σ H E I hf st hg
  subst hP hw hK
  obtain ⟨xs, hq, hx⟩ := hg
  obtain ⟨its, rv, p, hz⟩ := I.tuple hq
  obtain ⟨f0, f1, f2, f3, f4, f5⟩ := hf it (by simp)
  have hl := rv.length
  exact wpAny_pyNext_tuple_end (I.ok.hd hc) st (show s.heap.IsTuple a its.toArray from p) (by simp; omega) fun h' eb => ⟨rfl, I.turned (t' := s.toks) (fun b o hb e => eb b o hb e) f0 f1 f3 f4 f5⟩
 self := fun _ _ _ _ _ st h => wpAny_pyIter_tupleiter st h
theorem ys0 {P : Program} {w : World} {K : Frag} {tg : Expr} (it : Addr) (lo : Int) (n : Nat) : Turn P w K tg (Itr lo n) [it] it (fun i h => IsRangeIter h it (lo + (i : Nat) * 1) ((n : Int) - (i : Nat)) 1) where
 mem := by simp
 obj := fun i h st b hb => by
  have e : b = it := by simpa using hb
  subst e
  exact ⟨_, st, fun v z => by
   have z' : Data.fields _ = Data.cell v := z
   cases z'⟩
 keep := fun i h h' st k => k it (by simp) _ st
 item := by
  intro X hP hw hK hc i pins s σ H E I hf st hg
  subst hP hw hK
  obtain ⟨f0, f1, f2, f3, f4, f5⟩ := hf it (by simp)
  have W := Walks.range (prog := X.prog) (w := X.w) (I.ok.hd hc) it lo 1 n
  refine W.item i s _ _ hg st fun v h' tk hv st' kk => ?_
  obtain ⟨t, rfl⟩ := hv
  have I1 : Inv X pins σ H { s with heap := h', toks := tk } := I.turned (fun b o hb e => kk b o (by simpa using hb) e) f0 f1 f3 f4 f5
  refine ⟨_, rfl, yn9 (s := { s with heap := h', toks := tk }) (n := "range_iterator") st' rfl rfl (by decide) ⟨.int (lo + i), H, I1, ⟨t, ?_⟩, ⟨rfl, rfl⟩, st', fun b hb => (hf b hb).1⟩⟩
  rw [Int.mul_one]
 done := by
  intro X hP hw hK hc i pins s σ H E I hf st hg
  subst hP hw hK
  obtain ⟨f0, f1, f2, f3, f4, f5⟩ := hf it (by simp)
  exact wpAny_pyNext_range_end (I.ok.hd hc) st (by have : n <= i := hg; omega) fun h' eb => ⟨rfl, I.turned (t' := s.toks) (fun b o hb e => eb b o hb e) f0 f1 f3 f4 f5⟩
 self := fun _ _ _ _ _ st h => wpAny_pyIter_rangeiter st h
section
variable {X : Cx} {tg : Expr}
def iList (K : Frag) (tl : TE) : TI := fun σ H R => tl σ H fun x H1 => ∃ a, x = .ref a /\ (∃ xs, SqL K H1 a xs) /\ R (Itl K a) H1
def iTup (K : Frag) (tl : TE) : TI := fun σ H R => tl σ H fun x H1 => ∃ a, x = .ref a /\ (∃ xs, SqT K H1 a xs) /\ R (Itt K a) H1
theorem pi_list {l : Expr} {tl : TE} (hl : PE X l tl) : PI X tg l (iList X.K tl) := by
 intro pins s σ H R I h
 refine thn (hl pins s σ H _ I h) fun v s1 ⟨x, H1, I1, r1, q1⟩ => ?_
 obtain ⟨a, e, ⟨xs, hq⟩, q⟩ := q1
 subst e
 cases r1
 obtain ⟨its, rv, p, hz⟩ := I1.list hq
 refine wpAny_pyIter_list p.isList ?_
 refine ⟨s1.heap.objs.size, [s1.heap.objs.size], _, _, H1, rfl, I1.kept (t' := s1.toks) fun b o e => Heap.get?_push_of_some _ e, yw7 a _, ⟨_, Heap.get?_push_size _ rfl, rfl, rfl⟩, fun b hb => ?_, q⟩
 have e : b = s1.heap.objs.size := by simpa using hb
 subst e
 exact I1.fpOk (Nat.le_refl _) (I1.hok.fresh (Nat.le_refl _))
theorem pi_tup {l : Expr} {tl : TE} (hl : PE X l tl) : PI X tg l (iTup X.K tl) := by
 intro pins s σ H R I h
 refine thn (hl pins s σ H _ I h) fun v s1 ⟨x, H1, I1, r1, q1⟩ => ?_
 obtain ⟨a, e, ⟨xs, hq⟩, q⟩ := q1
 subst e
 cases r1
 obtain ⟨its, rv, p, hz⟩ := I1.tuple hq
 refine wpAny_pyIter_tuple (show s1.heap.IsTuple a its.toArray from p) ?_
 refine ⟨s1.heap.objs.size, [s1.heap.objs.size], _, _, H1, rfl, I1.kept (t' := s1.toks) fun b o e => Heap.get?_push_of_some _ e, yr9 a _, ⟨_, Heap.get?_push_size _ rfl, rfl, rfl⟩, fun b hb => ?_, q⟩
 have e : b = s1.heap.objs.size := by simpa using hb
 subst e
 exact I1.fpOk (Nat.le_refl _) (I1.hok.fresh (Nat.le_refl _))
theorem yp5 {pins : List (Addr × Obj)} {σ : St} {H : Hp} {s : Shared} {R : It -> Hp -> Prop} {E : Value -> Shared -> Prop} {lo hi : Int} {t u v : Tok} {tk : Nat} (I : Inv X pins σ H s) (h1 : -(2 ^ 62) <= lo) (h2 : lo < 2 ^ 62) (h3 : -(2 ^ 62) <= hi) (h4 : hi < 2 ^ 62)
  (q : R (Itr lo (hi - lo).toNat) H) : wpAny (model X.prog X.w) X.A (pyIter (.ref s.heap.objs.size)) (PIE X pins σ tg R) E { s with heap := s.heap.push { cls := .type "range", data := .fields #[.int lo t, .int hi u, .int 1 v] }, toks := tk } := by
 refine wpAny_pyIter_range (IsRange.new ..) (small_one h1 h2 h3 h4) ?_
 have I1 : Inv X pins σ H { s with heap := s.heap.push { cls := .type "range", data := .fields #[.int lo t, .int hi u, .int 1 v] }, toks := tk } := I.kept fun b o e => Heap.get?_push_of_some _ e
 refine ⟨(s.heap.push { cls := .type "range", data := .fields #[.int lo t, .int hi u, .int 1 v] }).objs.size, [(s.heap.push { cls := .type "range", data := .fields #[.int lo t, .int hi u, .int 1 v] }).objs.size], _, _, H, rfl,
  I1.kept (t' := tk) fun b o e => Heap.get?_push_of_some _ e, ys0 _ lo (hi - lo).toNat, ?_, fun b hb => ?_, q⟩
 ·have e1 : lo + ((0 : Nat) : Int) * 1 = lo := by simp
  have e2 : (((hi - lo).toNat : Nat) : Int) - ((0 : Nat) : Int) = Builtin.Range.rangeSize lo hi 1 := by rw [rangeSize_one]; split <;> omega
  show IsRangeIter _ _ (lo + ((0 : Nat) : Int) * 1) ((((hi - lo).toNat : Nat) : Int) - ((0 : Nat) : Int)) 1
  rw [e1, e2]
  exact Heap.get?_push_size _ rfl
 ·have e : b = (s.heap.push { cls := .type "range", data := .fields #[.int lo t, .int hi u, .int 1 v] }).objs.size := by simpa using hb
  subst e
  exact I1.fpOk (Nat.le_refl _) (I1.hok.fresh (Nat.le_refl _))
def iRng1 (ta : TA) : TI := fun σ H R => ta σ H fun vs H1 => ∃ j : Int, vs = [.int j] /\ -(2 ^ 62) <= j /\ j < 2 ^ 62 /\ R (Itr 0 j.toNat) H1
def iRng2 (ta : TA) : TI := fun σ H R => ta σ H fun vs H1 => ∃ i j : Int, vs = [.int i, .int j] /\ (-(2 ^ 62) <= i /\ i < 2 ^ 62 /\ -(2 ^ 62) <= j /\ j < 2 ^ 62) /\ R (Itr i (j - i).toNat) H1
theorem yz5 {a : Expr} {ta : TA} {p pos : Pos} (hg : Gl X "range") (hm : X.mg "range" = none) (ha : PA X [a] ta) (hs : starEach [a] X.env = [(false, eval a X.env)] := by rfl) : PI X tg (.Call (.Name "range" p) [a] [] pos) (iRng1 ta) := by
 intro pins s σ H R I h
 refine Call_ (yc0 I hg hm boot_range (PyProof.Rows.callWith_type1 (thn (ha pos pins s σ H _ I h) fun us s1 ⟨vs, H1, I1, r1, q1⟩ => ?_) hs rfl))
 obtain ⟨j, e, q1, q2, q⟩ := q1
 subst e
 cases r1 with
 | cons r rr =>
  cases rr
  obtain ⟨t, rfl⟩ := r
  exact call_range_1 (yp5 I1 (by omega) (by omega) q1 q2 (by simpa using q))
theorem yi2 {a b : Expr} {ta : TA} {p pos : Pos} (hg : Gl X "range") (hm : X.mg "range" = none) (ha : PA X [a, b] ta) (hs : starEach [a, b] X.env = [(false, eval a X.env), (false, eval b X.env)] := by rfl) (hs2 : starEach [b] X.env = [(false, eval b X.env)] := by rfl) :
  PI X tg (.Call (.Name "range" p) [a, b] [] pos) (iRng2 ta) := by
 intro pins s σ H R I h
 refine Call_ (yc0 I hg hm boot_range (PyProof.Rows.callWith_type1 (thn (ha pos pins s σ H _ I h) fun us s1 ⟨vs, H1, I1, r1, q1⟩ => ?_) (by rw [hs, hs2]) (by rw [hs2]; rfl)))
 obtain ⟨i, j, e, ⟨q1, q2, q3, q4⟩, q⟩ := q1
 subst e
 cases r1 with
 | cons r rr =>
  cases rr with
  | cons r' rr =>
   cases rr
   obtain ⟨t, rfl⟩ := r
   obtain ⟨t', rfl⟩ := r'
   exact call_range_2 (yp5 I1 q1 q2 q3 q4 q)
def tFor (wi : TI) (g : TG) (tb : TS) : TS := fun D σ H => wi σ H fun J H1 => ∃ W : Nat -> Nat -> St -> Hp -> Prop, (∃ m, W 0 m σ H1) /\ ∀ i m σ H, W i m σ H ->
 (J.stop i H /\ D.nx σ H) \/ (J.go i H /\ ∃ N : St -> Hp -> Prop, (∀ σ' H', N σ' H' -> ∃ m', m' < m /\ W (i + 1) m' σ' H') /\ ∀ x H', J.yld i H x H' -> g x σ H' fun σ2 H2 => tb { D with nx := N, ct := N, bk := D.nx } σ2 H2)
def yp6 (fp : List Addr) (h : Heap) : List (Addr × Obj) := fp.filterMap fun b => (h.get? b).map fun o => (b, o)
theorem xo7 {fp : List Addr} {h : Heap} {b : Addr} {o : Obj} (hb : b ∈ fp) (e : h.get? b = some o) : (b, o) ∈ yp6 fp h := List.mem_filterMap.mpr ⟨b, hb, by rw [e]; rfl⟩
theorem zb2 {fp : List Addr} {h : Heap} {p : Addr × Obj} (hp : p ∈ yp6 fp h) : p.1 ∈ fp /\ h.get? p.1 = some p.2 := by
 obtain ⟨b, hb, e⟩ := List.mem_filterMap.mp hp
 cases q : h.get? b with
 | none => rw [q] at e; cases e
 | some o =>
  rw [q] at e
  have e' : (b, o) = p := Option.some.inj e
  subst e'
  exact ⟨hb, q⟩
theorem Inv.pinned {pins : List (Addr × Obj)} {σ : St} {H : Hp} {s : Shared} {fp : List Addr} (I : Inv X pins σ H s) (hf : ∀ b ∈ fp, FpOk X pins H b) (ho : ∀ b ∈ fp, ∃ o, s.heap.get? b = some o /\ ∀ v, o.data ≠ .cell v) : Inv X (pins ++ yp6 fp s.heap) σ H s :=
 I.pins_of fun p hp => (List.mem_append.mp hp).elim (fun z => I.pin p (List.mem_append_right _ z)) fun z => by
  obtain ⟨hb, e⟩ := zb2 z
  obtain ⟨f0, f1, f2, _⟩ := hf p.1 hb
  obtain ⟨o, e', d⟩ := ho p.1 hb
  rw [e] at e'; cases e'
  exact ⟨e, f0, f1, f2, d⟩
theorem Inv.unpinned {pins pl : List (Addr × Obj)} {σ : St} {H : Hp} {s : Shared} (I : Inv X (pins ++ pl) σ H s) : Inv X pins σ H s := I.pins_of fun p hp => I.pin p (List.mem_append_right _ (List.mem_append_left _ hp))
theorem xg7 {iter : Expr} {body : List Stmt} {wi : TI} {g : TG} {tb : TS} {pos : Pos} (hp : PassesOwn (model X.prog X.w) X.A X.env X.xe) (hc : X.calm = true) (hi : PI X tg iter wi) (hg : PG X tg g) (hb : PSs X body tb)
  (hs : ∀ x, foldedSetIterable iter X.env x = pure x := by intro _; rfl) : PS X (.For tg iter body [] pos) (tFor wi g tb) := by
 intro pins s σ H D I h
 refine wpAny_For (thn (hi pins s σ H _ I h) fun v s1 h1 => thn h1 fun itv s2 h2 => ?_) hs
 obtain ⟨it, fp, tn, J, H2, e, I2, T, st2, f2, W, ⟨m0, w0⟩, turn⟩ := h2
 subst e
 have stat : ∀ {H' : Hp}, (∀ b ∈ fp, H' b = none) -> ∀ b ∈ fp, FpOk X pins H' b := fun hn b hb => ⟨hn b hb, (f2 b hb).2⟩
 refine codeAny_forLoop_any (fun n s' => ∃ i σ' H', Inv X pins σ' H' s' /\ tn i s'.heap /\ (∀ b ∈ fp, H' b = none) /\ W i n σ' H') ?_ m0 ⟨0, σ, H2, I2, st2, fun b hb => (f2 b hb).1, w0⟩
 rintro n s3 ⟨i, σ3, H3, I3, st3, fr3, w3⟩
 rcases turn i n σ3 H3 w3 with ⟨stop, qn⟩ | ⟨go, N, hN, step⟩
 ·refine wpAny_passesOwn hp (thn (T.done X rfl rfl rfl hc i pins s3 σ3 H3 X.xe I3 (stat fr3) st3 stop) fun r s4 ⟨hr, I4⟩ => ?_)
  subst hr
  exact wpAny_execs_nil ⟨σ3, H3, I4, qn⟩
 ·refine wpAny_passesOwn hp (thn (T.item X rfl rfl rfl hc i pins s3 σ3 H3 X.xe I3 (stat fr3) st3 go) fun r s4 ⟨u, hr, h4⟩ => ?_)
  subst hr
  refine wpAny_passesOwn hp (thn h4 fun _ s5 ⟨x, H5, I5, r5, y5, st5, fr5⟩ => ?_)
  have I5' := I5.pinned (stat fr5) (T.obj _ _ st5)
  refine wpAny_passesOwn hp (thn (hg _ s5 σ3 H5 x u _ I5' r5 (step x H5 y5)) fun _ s6 ⟨σ6, H6, I6, q6⟩ => ?_)
  refine wpAny_passesOwn hp (thn (hb _ s6 σ6 H6 _ I6 q6) fun f s7 q7 => ?_)
  have again : ∀ {σ7 : St} {H7 : Hp}, Inv X (pins ++ yp6 fp s5.heap) σ7 H7 s7 -> N σ7 H7 -> ∃ m, m < n /\ ∃ i σ' H', Inv X pins σ' H' s7 /\ tn i s7.heap /\ (∀ b ∈ fp, H' b = none) /\ W i m σ' H' := fun {σ7 H7} I7 n7 => by
   obtain ⟨m', hm, w7⟩ := hN σ7 H7 n7
   refine ⟨m', hm, i + 1, σ7, H7, I7.unpinned, T.keep _ _ _ st5 fun b hb o e => (I7.pin (b, o) (List.mem_append_right _ (List.mem_append_right _ (xo7 hb e)))).1, fun b hb => ?_, w7⟩
   obtain ⟨o, e, d⟩ := T.obj _ _ st5 b hb
   exact (I7.pin (b, o) (List.mem_append_right _ (List.mem_append_right _ (xo7 hb e)))).2.1
  cases f with
  | next => obtain ⟨σ7, H7, I7, n7⟩ := q7; exact again I7 n7
  | cont => obtain ⟨σ7, H7, I7, n7⟩ := q7; exact again I7 n7
  | brk => obtain ⟨σ7, H7, I7, q7⟩ := q7; exact ⟨σ7, H7, I7.unpinned, q7⟩
  | ret v => obtain ⟨x7, σ7, H7, I7, r7, q7⟩ := q7; exact ⟨x7, σ7, H7, I7.unpinned, r7, q7⟩
end
theorem xh7 {K : Frag} {a : Addr} {xs : List V} {g : TG} {tb : TS} {D : Ends} {σ : St} {H : Hp} (Pv : Nat -> St -> Hp -> Prop) (h0 : Pv 0 σ H) (hl : ∀ i σ H, i <= xs.length -> Pv i σ H -> SqL K H a xs)
  (hs : ∀ i x σ H, xs[i]? = some x -> Pv i σ H -> g x σ H fun σ2 H2 => tb { D with nx := Pv (i + 1), ct := Pv (i + 1), bk := D.nx } σ2 H2) (hd : ∀ σ H, Pv xs.length σ H -> D.nx σ H) :
  ∃ W : Nat -> Nat -> St -> Hp -> Prop, (∃ m, W 0 m σ H) /\ ∀ i m σ H, W i m σ H ->
   ((Itl K a).stop i H /\ D.nx σ H) \/ ((Itl K a).go i H /\ ∃ N : St -> Hp -> Prop, (∀ σ' H', N σ' H' -> ∃ m', m' < m /\ W (i + 1) m' σ' H') /\ ∀ x H', (Itl K a).yld i H x H' -> g x σ H' fun σ2 H2 => tb { D with nx := N, ct := N, bk := D.nx } σ2 H2) := by
 refine ⟨fun i m σ H => m = xs.length - i /\ i <= xs.length /\ Pv i σ H, ⟨xs.length, by simp, Nat.zero_le _, h0⟩, ?_⟩
 rintro i m σ H ⟨rfl, hi, p⟩
 have q := hl i σ H hi p
 by_cases hlt : i < xs.length
 ·refine .inr ⟨⟨xs, xs[i], q, by simp [hlt]⟩, Pv (i + 1), fun σ' H' p' => ⟨xs.length - (i + 1), by omega, rfl, hlt, p'⟩, fun x H' y => ?_⟩
  obtain ⟨e, y⟩ := y
  subst e
  exact hs i x σ _ (y xs q) p
 ·have e : i = xs.length := by omega
  subst e
  exact .inl ⟨⟨xs, q, Nat.le_refl _⟩, hd σ H p⟩
theorem zd1 {K : Frag} {a : Addr} {xs : List V} {g : TG} {tb : TS} {D : Ends} {σ : St} {H : Hp} (Pv : Nat -> St -> Hp -> Prop) (h0 : Pv 0 σ H) (hl : ∀ i σ H, i <= xs.length -> Pv i σ H -> SqT K H a xs)
  (hs : ∀ i x σ H, xs[i]? = some x -> Pv i σ H -> g x σ H fun σ2 H2 => tb { D with nx := Pv (i + 1), ct := Pv (i + 1), bk := D.nx } σ2 H2) (hd : ∀ σ H, Pv xs.length σ H -> D.nx σ H) :
  ∃ W : Nat -> Nat -> St -> Hp -> Prop, (∃ m, W 0 m σ H) /\ ∀ i m σ H, W i m σ H ->
   ((Itt K a).stop i H /\ D.nx σ H) \/ ((Itt K a).go i H /\ ∃ N : St -> Hp -> Prop, (∀ σ' H', N σ' H' -> ∃ m', m' < m /\ W (i + 1) m' σ' H') /\ ∀ x H', (Itt K a).yld i H x H' -> g x σ H' fun σ2 H2 => tb { D with nx := N, ct := N, bk := D.nx } σ2 H2) := by
 refine ⟨fun i m σ H => m = xs.length - i /\ i <= xs.length /\ Pv i σ H, ⟨xs.length, by simp, Nat.zero_le _, h0⟩, ?_⟩
 rintro i m σ H ⟨rfl, hi, p⟩
 have q := hl i σ H hi p
 by_cases hlt : i < xs.length
 ·refine .inr ⟨⟨xs, xs[i], q, by simp [hlt]⟩, Pv (i + 1), fun σ' H' p' => ⟨xs.length - (i + 1), by omega, rfl, hlt, p'⟩, fun x H' y => ?_⟩
  obtain ⟨e, y⟩ := y
  subst e
  exact hs i x σ _ (y xs q) p
 ·have e : i = xs.length := by omega
  subst e
  exact .inl ⟨⟨xs, q, Nat.le_refl _⟩, hd σ H p⟩
theorem xy0 {lo : Int} {n : Nat} {g : TG} {tb : TS} {D : Ends} {σ : St} {H : Hp} (Pv : Nat -> St -> Hp -> Prop) (h0 : Pv 0 σ H)
  (hs : ∀ i σ H, i < n -> Pv i σ H -> g (.int (lo + i)) σ H fun σ2 H2 => tb { D with nx := Pv (i + 1), ct := Pv (i + 1), bk := D.nx } σ2 H2) (hd : ∀ σ H, Pv n σ H -> D.nx σ H) :
  ∃ W : Nat -> Nat -> St -> Hp -> Prop, (∃ m, W 0 m σ H) /\ ∀ i m σ H, W i m σ H ->
   ((Itr lo n).stop i H /\ D.nx σ H) \/ ((Itr lo n).go i H /\ ∃ N : St -> Hp -> Prop, (∀ σ' H', N σ' H' -> ∃ m', m' < m /\ W (i + 1) m' σ' H') /\ ∀ x H', (Itr lo n).yld i H x H' -> g x σ H' fun σ2 H2 => tb { D with nx := N, ct := N, bk := D.nx } σ2 H2) := by
 refine ⟨fun i m σ H => m = n - i /\ i <= n /\ Pv i σ H, ⟨n, by simp, Nat.zero_le _, h0⟩, ?_⟩
 rintro i m σ H ⟨rfl, hi, p⟩
 by_cases hlt : i < n
 ·refine .inr ⟨hlt, Pv (i + 1), fun σ' H' p' => ⟨n - (i + 1), by omega, rfl, hlt, p'⟩, fun x H' y => ?_⟩
  obtain ⟨e, y⟩ := y
  subst e y
  exact hs i σ _ hlt p
 ·have e : i = n := by omega
  subst e
  exact .inl ⟨Nat.le_refl _, hd σ H p⟩
abbrev R2 := V -> V -> Hp -> VK -> Prop
def OpR (X : Cx) (f : Value -> Value -> Sem Value) (r : R2) : Prop :=
 ∀ (pins : List (Addr × Obj)) (s : Shared) (σ : St) (H : Hp) (x y : V) (v u : Value) (Q : VK), Inv X pins σ H s -> RelV x v -> RelV y u -> r x y H Q ->
  wpAny (model X.prog X.w) X.A (f v u) (EP X pins σ Q) X.xe s
def xi1 (X : Cx) (f : Value) (r : List V -> Hp -> VK -> Prop) : Prop :=
 ∀ (pins : List (Addr × Obj)) (s : Shared) (σ : St) (H : Hp) (xs : List V) (us : List Value) (Q : VK), Inv X pins σ H s -> Vals xs us -> r xs H Q ->
  wpAny (model X.prog X.w) X.A (call f us) (EP X pins σ Q) X.xe s
def tOp (r : R2) (ta tb : TE) : TE := fun σ H Q => ta σ H fun x H1 => tb σ H1 fun y H2 => r x y H2 Q
def rI (C : Int -> Int -> Prop) (g : Int -> Int -> V) : R2 := fun x y H Q => ∃ i j, x = .int i /\ y = .int j /\ C i j /\ Q (g i j) H
def rI0 (g : Int -> Int -> V) : R2 := fun x y H Q => ∃ i j, x = .int i /\ y = .int j /\ Q (g i j) H
section
variable {X : Cx} {a b c : Expr} {ta tb tc : TE} {pos : Pos}
theorem binT (ha : PE X a ta) (hb : PE X b tb) {pins : List (Addr × Obj)} {s : Shared} {σ : St} {H : Hp} {R : V -> V -> Hp -> Prop} (I : Inv X pins σ H s)
  (h : ta σ H fun x H1 => tb σ H1 fun y H2 => R x y H2) {Q : Value -> Shared -> Prop} {f : Value -> Value -> Sem Value}
  (hf : ∀ v u s2 x y H2, Inv X pins σ H2 s2 -> RelV x v -> RelV y u -> R x y H2 -> wpAny (model X.prog X.w) X.A (f v u) Q X.xe s2) :
  wpAny (model X.prog X.w) X.A (eval a X.env) (fun v s₁ => wpAny (model X.prog X.w) X.A (eval b X.env) (fun u s₂ => wpAny (model X.prog X.w) X.A (f v u) Q X.xe s₂) X.xe s₁) X.xe s := by
 refine thn (ha pins s σ H _ I h) fun v s1 ⟨x, H1, I1, r1, q1⟩ => ?_
 refine thn (hb pins s1 σ H1 _ I1 q1) fun u s2 ⟨y, H2, I2, r2, q2⟩ => ?_
 exact hf v u s2 x y H2 I2 r1 r2 q2
theorem xd9 {op : Operator} {r : R2} (ho : OpR X (binaryOp op) r) (ha : PE X a ta) (hb : PE X b tb) : PE X (.BinOp a op b pos) (tOp r ta tb) := by
 intro pins s σ H Q I h
 exact wpAny_BinOp (binT ha hb I h fun v u s2 x y H2 I2 rx ry q => ho pins s2 σ H2 x y v u Q I2 rx ry q)
theorem opI {f : Value -> Value -> Sem Value} {C : Int -> Int -> Prop} {g : Int -> Int -> Int}
  (rule : ∀ (i j : Int) (t u : Tok) (s : Shared) (Q : Value -> Shared -> Prop) (E : Value -> Shared -> Prop), C i j -> Q (.int (g i j) s.toks) { s with toks := s.toks + 1 } -> wpAny (model X.prog X.w) X.A (f (.int i t) (.int j u)) Q E s) :
  OpR X f (rI C fun i j => .int (g i j)) := by
 intro pins s σ H x y v u Q I rx ry h
 obtain ⟨i, j, rfl, rfl, hc, q⟩ := h
 obtain ⟨t, rfl⟩ := rx
 obtain ⟨t', rfl⟩ := ry
 exact rule i j t t' s _ _ hc ⟨.int (g i j), H, I.tok _, ⟨_, rfl⟩, q⟩
theorem opI0 {f : Value -> Value -> Sem Value} {g : Int -> Int -> Int}
  (rule : ∀ (i j : Int) (t u : Tok) (s : Shared) (Q : Value -> Shared -> Prop) (E : Value -> Shared -> Prop), Q (.int (g i j) s.toks) { s with toks := s.toks + 1 } -> wpAny (model X.prog X.w) X.A (f (.int i t) (.int j u)) Q E s) :
  OpR X f (rI0 fun i j => .int (g i j)) := by
 intro pins s σ H x y v u Q I rx ry h
 obtain ⟨i, j, rfl, rfl, q⟩ := h
 obtain ⟨t, rfl⟩ := rx
 obtain ⟨t', rfl⟩ := ry
 exact rule i j t t' s _ _ ⟨.int (g i j), H, I.tok _, ⟨_, rfl⟩, q⟩
theorem opB0 {f : Value -> Value -> Sem Value} {g : Int -> Int -> Bool}
  (rule : ∀ (i j : Int) (t u : Tok) (s : Shared) (Q : Value -> Shared -> Prop) (E : Value -> Shared -> Prop), Q (.bool (g i j)) s -> wpAny (model X.prog X.w) X.A (f (.int i t) (.int j u)) Q E s) :
  OpR X f (rI0 fun i j => .bl (g i j)) := by
 intro pins s σ H x y v u Q I rx ry h
 obtain ⟨i, j, rfl, rfl, q⟩ := h
 obtain ⟨t, rfl⟩ := rx
 obtain ⟨t', rfl⟩ := ry
 exact rule i j t t' s _ _ ⟨.bl (g i j), H, I, rfl, q⟩
def CMul (i j : Int) : Prop := (-(2 ^ 64) < i /\ i < 2 ^ 64) \/ (-(2 ^ 64) < j /\ j < 2 ^ 64)
theorem CMul.ok {i j : Int} (h : CMul i j) : IntMulOk i j := by
 rcases h with ⟨h1, h2⟩ | ⟨h1, h2⟩
 ·exact .of_left (intBits_le_64 h1 h2)
 ·exact .of_right (intBits_le_64 h1 h2)
theorem xq9 : OpR X (binaryOp .Add) (rI0 fun i j => .int (i + j)) := opI0 fun _ _ _ _ _ _ _ q => add_int q
theorem yi6 : OpR X (binaryOp .Sub) (rI0 fun i j => .int (i - j)) := opI0 fun _ _ _ _ _ _ _ q => sub_int q
theorem za6 : OpR X (binaryOp .Mult) (rI CMul fun i j => .int (i * j)) := opI fun _ _ _ _ _ _ _ hc q => mul_int q hc.ok
theorem xl9 : OpR X (binaryOp .Mod) (rI (fun _ j => 0 < j) fun i j => .int (i % j)) := opI fun i j _ _ _ _ _ hc q => by
 have h1 : (0 : Int) < j := hc
 exact mod_int' (by omega) (by rw [Int.fmod_eq_emod_of_nonneg i (by omega)]; exact q)
end
def scal : V -> V -> Bool
 | .non, .non => true | .non, .int _ => true | .int _, .non => true | .non, .bl _ => true | .bl _, .non => true | .non, .str _ => true | .str _, .non => true
 | .int _, .int _ => true | .bl _, .bl _ => true | .str _, .str _ => true | .byt _, .byt _ => true
 | .int _, .str _ => true | .str _, .int _ => true | .bl _, .str _ => true | .str _, .bl _ => true
 | _, _ => false
def rEq : R2 := fun x y H Q => scal x y = true /\ Q (.bl (decide (x = y))) H
def rNe : R2 := fun x y H Q => scal x y = true /\ Q (.bl (!decide (x = y))) H
theorem ze1 {i j : Int} : decide (V.int i = V.int j) = (i == j) := by
 rw [Bool.eq_iff_iff]
 simp
theorem dec_bl {i j : Bool} : decide (V.bl i = V.bl j) = (i == j) := by
 rw [Bool.eq_iff_iff]
 simp
theorem ze0 {i j : Str} : decide (V.str i = V.str j) = (i == j) := by
 rw [Bool.eq_iff_iff]
 simp
theorem ze2 {i j : Array UInt8} : decide (V.byt i = V.byt j) = (i.toList == j.toList) := by
 rw [Bool.eq_iff_iff]
 cases i
 cases j
 simp
section
variable {X : Cx} {a b c : Expr} {ta tb tc : TE} {pos : Pos}
theorem xd3 {pins : List (Addr × Obj)} {σ : St} {H : Hp} {s : Shared} {Q : VK} {k k' : Bool} (I : Inv X pins σ H s) (q : Q (.bl k) H) (e : k = k') : EP X pins σ Q (.bool k') s := by
 subst e
 exact ⟨.bl k, H, I, rfl, q⟩
theorem yt8 : OpR X (compareOp .Eq) rEq := by
 intro pins s σ H x y v u Q I rx ry h
 obtain ⟨hs, q⟩ := h
 cases x with
 | non =>
  cases rx
  cases y with
  | non => cases ry; exact PySem.EqNone.eq_none_none (xd3 I q (by simp))
  | bl j => cases ry; exact PySem.EqNone.eq_none_bool (xd3 I q (by simp))
  | int j => obtain ⟨t', rfl⟩ := ry; exact PySem.EqNone.eq_none_int (xd3 I q (by simp))
  | str j => obtain ⟨t', rfl⟩ := ry; exact PySem.EqNone.eq_none_str (xd3 I q (by simp))
  | _ => exact absurd (show false = true from hs) Bool.false_ne_true
 | bl i =>
  cases rx
  cases y with
  | non => cases ry; exact PySem.EqNone.eq_bool_none (xd3 I q (by simp))
  | bl j => cases ry; exact eq_bool (xd3 I q dec_bl)
  | str j => obtain ⟨t', rfl⟩ := ry; exact PySem.EqMixed.eq_bool_str (xd3 I q (by simp))
  | _ => exact absurd (show false = true from hs) Bool.false_ne_true
 | int i =>
  obtain ⟨t, rfl⟩ := rx
  cases y with
  | non => cases ry; exact PySem.EqNone.eq_int_none (xd3 I q (by simp))
  | int j => obtain ⟨t', rfl⟩ := ry; exact eq_int (xd3 I q ze1)
  | str j => obtain ⟨t', rfl⟩ := ry; exact PySem.EqMixed.eq_int_str (xd3 I q (by simp))
  | _ => exact absurd (show false = true from hs) Bool.false_ne_true
 | str i =>
  obtain ⟨t, rfl⟩ := rx
  cases y with
  | non => cases ry; exact PySem.EqNone.eq_str_none (xd3 I q (by simp))
  | bl j => cases ry; exact PySem.EqMixed.eq_str_bool (xd3 I q (by simp))
  | int j => obtain ⟨t', rfl⟩ := ry; exact PySem.EqMixed.eq_str_int (xd3 I q (by simp))
  | str j => obtain ⟨t', rfl⟩ := ry; exact eq_str (xd3 I q ze0)
  | _ => exact absurd (show false = true from hs) Bool.false_ne_true
 | byt i =>
  obtain ⟨t, rfl⟩ := rx
  cases y with
  | byt j => obtain ⟨t', rfl⟩ := ry; exact eq_bytes (xd3 I q ze2)
  | _ => exact absurd (show false = true from hs) Bool.false_ne_true
 | _ => cases y <;> exact absurd (show false = true from hs) Bool.false_ne_true
theorem op_ne : OpR X (compareOp .NotEq) rNe := by
 intro pins s σ H x y v u Q I rx ry h
 obtain ⟨hs, q⟩ := h
 cases x with
 | non =>
  cases rx
  cases y with
  | non => cases ry; exact PySem.EqNone.ne_none_none (xd3 I q (by simp))
  | bl j => cases ry; exact PySem.EqNone.ne_none_bool (xd3 I q (by simp))
  | int j => obtain ⟨t', rfl⟩ := ry; exact PySem.EqNone.ne_none_int (xd3 I q (by simp))
  | str j => obtain ⟨t', rfl⟩ := ry; exact PySem.EqNone.ne_none_str (xd3 I q (by simp))
  | _ => exact absurd (show false = true from hs) Bool.false_ne_true
 | bl i =>
  cases rx
  cases y with
  | non => cases ry; exact PySem.EqNone.ne_bool_none (xd3 I q (by simp))
  | bl j => cases ry; exact ne_bool (xd3 I q (congrArg not dec_bl))
  | str j => obtain ⟨t', rfl⟩ := ry; exact PySem.EqMixed.ne_bool_str (xd3 I q (by simp))
  | _ => exact absurd (show false = true from hs) Bool.false_ne_true
 | int i =>
  obtain ⟨t, rfl⟩ := rx
  cases y with
  | non => cases ry; exact PySem.EqNone.ne_int_none (xd3 I q (by simp))
  | int j => obtain ⟨t', rfl⟩ := ry; exact ne_int (xd3 I q (congrArg not ze1))
  | str j => obtain ⟨t', rfl⟩ := ry; exact PySem.EqMixed.ne_int_str (xd3 I q (by simp))
  | _ => exact absurd (show false = true from hs) Bool.false_ne_true
 | str i =>
  obtain ⟨t, rfl⟩ := rx
  cases y with
  | non => cases ry; exact PySem.EqNone.ne_str_none (xd3 I q (by simp))
  | bl j => cases ry; exact PySem.EqMixed.ne_str_bool (xd3 I q (by simp))
  | int j => obtain ⟨t', rfl⟩ := ry; exact PySem.EqMixed.ne_str_int (xd3 I q (by simp))
  | str j => obtain ⟨t', rfl⟩ := ry; exact ne_str (xd3 I q (congrArg not ze0))
  | _ => exact absurd (show false = true from hs) Bool.false_ne_true
 | byt i =>
  obtain ⟨t, rfl⟩ := rx
  cases y with
  | byt j => obtain ⟨t', rfl⟩ := ry; exact ne_bytes (xd3 I q (congrArg not ze2))
  | _ => exact absurd (show false = true from hs) Bool.false_ne_true
 | _ => cases y <;> exact absurd (show false = true from hs) Bool.false_ne_true
theorem op_lt : OpR X (compareOp .Lt) (rI0 fun i j => .bl (decide (i < j))) := opB0 fun _ _ _ _ _ _ _ q => lt_int q
theorem xu0 : OpR X (compareOp .LtE) (rI0 fun i j => .bl (decide (i <= j))) := opB0 fun _ _ _ _ _ _ _ q => le_int q
theorem op_gt : OpR X (compareOp .Gt) (rI0 fun i j => .bl (decide (j < i))) := opB0 fun _ _ _ _ _ _ _ q => gt_int q
theorem op_ge : OpR X (compareOp .GtE) (rI0 fun i j => .bl (decide (j <= i))) := opB0 fun _ _ _ _ _ _ _ q => ge_int q
theorem za7 : OpR X (compareOp .In) (fun x y H Q => ∃ i j, x = .str i /\ y = .str j /\ Q (.bl (!(Builtin.Str.occurrences j i 0 j.length 1).isEmpty)) H) := by
 intro pins s σ H x y v u Q I rx ry h
 obtain ⟨i, j, rfl, rfl, q⟩ := h
 obtain ⟨t, rfl⟩ := rx
 obtain ⟨t', rfl⟩ := ry
 exact in_str (xd3 I q rfl)
theorem xf2 (b : Expr) {op : CmpOp} (h : op ≠ .In := by decide) (h2 : op ≠ .NotIn := by decide) : behindInMarks op b = false := by
 have e1 : (op == CmpOp.In) = false := by cases op <;> first | rfl | exact absurd rfl h
 have e2 : (op == CmpOp.NotIn) = false := by cases op <;> first | rfl | exact absurd rfl h2
 cases b <;> simp [behindInMarks, e1, e2]
theorem xk8 {op : CmpOp} {r : R2} (ho : OpR X (compareOp op) r) (ha : PE X a ta) (hb : PE X b tb) (hm : behindInMarks op b = false) : PE X (.Compare a [op] [b] pos) (tOp r ta tb) := by
 intro pins s σ H Q I h
 exact wpAny_Compare1 (binT ha hb I h fun v u s2 x y H2 I2 rx ry q => ho pins s2 σ H2 x y v u Q I2 rx ry q) hm
def tTest (t : TE) : TT := fun σ H Q => t σ H fun x H' => ∃ k, x = .bl k /\ Q k H'
theorem xf9 {op : CmpOp} {r : R2} (ho : OpR X (compareOp op) r) (ha : PE X a ta) (hb : PE X b tb) (hm : behindInMarks op b = false) : PT X (.Compare a [op] [b] pos) (tTest (tOp r ta tb)) := by
 intro pins s σ H Q I h
 refine wpAny_isTrue_Compare1 (thn (ha pins s σ H _ I h) fun v s1 ⟨x, H1, I1, r1, q1⟩ => thn (hb pins s1 σ H1 _ I1 q1) fun u s2 ⟨y, H2, I2, r2, q2⟩ =>
  thn (ho pins s2 σ H2 x y v u _ I2 r1 r2 q2) fun c s3 ⟨z, H3, I3, r3, k, e, q3⟩ => ?_) hm
 subst e
 cases r3
 exact wpAny_truthy_bool ⟨H3, I3, q3⟩
def tChain (r r' : R2) (ta tb tc : TE) : TE := fun σ H Q => ta σ H fun x H1 => tb σ H1 fun y H2 => r x y H2 fun z H3 => ∃ k, z = .bl k /\
 (if k = true then tc σ H3 fun w' H4 => r' y w' H4 Q else Q (.bl false) H3)
theorem xu4 {op op' : CmpOp} {r r' : R2} (ho : OpR X (compareOp op) r) (ho' : OpR X (compareOp op') r') (ha : PE X a ta) (hb : PE X b tb) (hc : PE X c tc)
  (hm : lastMarks [op, op'] [b, c] = false := by with_unfolding_all rfl) : PE X (.Compare a [op, op'] [b, c] pos) (tChain r r' ta tb tc) := by
 intro pins s σ H Q I h
 refine Compare_chain (thn (ha pins s σ H _ I h) fun v s1 ⟨x, H1, I1, r1, q1⟩ => chain_link (thn (hb pins s1 σ H1 _ I1 q1) fun u s2 ⟨y, H2, I2, r2, q2⟩ =>
  thn (ho pins s2 σ H2 x y v u _ I2 r1 r2 q2) fun d s3 ⟨z, H3, I3, r3, k, e, q3⟩ => ?_)) hm
 subst e
 cases r3
 refine wpAny_truthy_bool ?_
 cases k with
 | false => exact ite_ff ⟨.bl false, H3, I3, rfl, q3⟩
 | true => exact ite_tt (chain_last (thn (hc pins s3 σ H3 _ I3 q3) fun w' s4 ⟨z', H4, I4, r4, q4⟩ => ho' pins s4 σ H4 y z' u w' Q I4 r2 r4 q4))
theorem pt_chain {op op' : CmpOp} {r r' : R2} (ho : OpR X (compareOp op) r) (ho' : OpR X (compareOp op') r') (ha : PE X a ta) (hb : PE X b tb) (hc : PE X c tc)
  (hm : lastMarks [op, op'] [b, c] = false := by with_unfolding_all rfl) : PT X (.Compare a [op, op'] [b, c] pos) (tTest (tChain r r' ta tb tc)) := by
 intro pins s σ H Q I h
 refine isTrue_chain (thn (ha pins s σ H _ I h) fun v s1 ⟨x, H1, I1, r1, q1⟩ => test_link (thn (hb pins s1 σ H1 _ I1 q1) fun u s2 ⟨y, H2, I2, r2, q2⟩ =>
  thn (ho pins s2 σ H2 x y v u _ I2 r1 r2 q2) fun d s3 ⟨z, H3, I3, r3, k, e, q3⟩ => ?_)) hm
 subst e
 cases r3
 refine wpAny_truthy_bool ?_
 cases k with
 | false =>
  obtain ⟨k', e', q'⟩ := q3
  cases e'
  exact ite_ff ⟨H3, I3, q'⟩
 | true =>
  refine ite_tt (test_last (thn (hc pins s3 σ H3 _ I3 q3) fun w' s4 ⟨z', H4, I4, r4, q4⟩ => thn (ho' pins s4 σ H4 y z' u w' _ I4 r2 r4 q4) fun d' s5 ⟨z2, H5, I5, r5, k2, e2, q5⟩ => ?_))
  subst e2
  cases r5
  exact wpAny_truthy_bool ⟨H5, I5, q5⟩
theorem yj4 : (sizeLine : Nat) < 2 ^ 63 := by rw [sizeLine_eq]; decide
theorem yb2 : OpR X (binaryOp .Add) (fun x y H Q => ∃ i j, x = .str i /\ y = .str j /\ i.length + j.length <= sizeLine /\ Q (.str (i ++ j)) H) := by
 intro pins s σ H x y v u Q I rx ry h
 obtain ⟨i, j, rfl, rfl, hz, q⟩ := h
 obtain ⟨t, rfl⟩ := rx
 obtain ⟨t', rfl⟩ := ry
 exact add_str (fun t' tk => ⟨.str (i ++ j), H, I.tok _, ⟨_, rfl⟩, q⟩) hz
theorem xq0 {x : V} {us : List Value} (r : Vals [x] us) : ∃ u, us = [u] /\ RelV x u := by
 cases r with
 | cons r1 r2 => cases r2; exact ⟨_, rfl, r1⟩
theorem yr8 {x y : V} {us : List Value} (r : Vals [x, y] us) : ∃ u w', us = [u, w'] /\ RelV x u /\ RelV y w' := by
 cases r with
 | cons r1 r2 =>
  cases r2 with
  | cons r3 r4 => cases r4; exact ⟨_, _, rfl, r1, r3⟩
theorem ze7 (hc : X.calm = true) : xi1 X (.builtin "min") (fun xs H Q => ∃ i j, xs = [.int i, .int j] /\ Q (.int (if j < i then j else i)) H) := by
 intro pins s σ H xs us Q I r h
 obtain ⟨i, j, rfl, q⟩ := h
 obtain ⟨u, w', rfl, ⟨t, rfl⟩, ⟨t', rfl⟩⟩ := yr8 r
 refine min_two_ints (I.ok.hd hc) fun h' tk k => ⟨_, H, I.kept k, ?_, q⟩
 by_cases hj : j < i
 ·rw [if_pos hj, if_pos hj]; exact ⟨_, rfl⟩
 ·rw [if_neg hj, if_neg hj]; exact ⟨_, rfl⟩
end
structure ObjM (h : Heap) (x dx C : Addr) (mA : Str -> Option Value) : Prop where
 obj : h.get? x = some (instObj C dx)
 ns : h.Ns1 dx mA
 ne : dx ≠ x
theorem xn9 {h : Heap} {dx : Addr} {mA : Str -> Option Value} (n : h.Ns1 dx mA) : ∃ od, h.get? dx = some od /\ ∀ name, lookIn name od = some (mA name) := by
 obtain ⟨o, es, ep, ho, hd, hk, _, hm⟩ := n
 refine ⟨o, ho, fun name => ?_⟩
 have e := hm name
 unfold nsFind findBy at e
 rw [<- Array.find?_toList] at e
 unfold lookIn
 rw [hd]
 dsimp only
 split
 ·rename_i y q
  rw [q] at e
  exact congrArg some e
 ·rename_i q
  rw [q] at e
  have a : es.toList.any (·.refKey) = false := by
   rw [List.any_eq_false]
   intro y hy
   obtain ⟨z, t, hkey⟩ := hk y (Array.mem_toList_iff.mp hy)
   simp [DictEntry.refKey, hkey]
  have a' : ¬ es.toList.any (·.refKey) = true := by rw [a]; exact Bool.false_ne_true
  rw [if_neg a']
  exact congrArg some e
theorem ObjM.look {h : Heap} {x dx C : Addr} {mA : Str -> Option Value} (I : ObjM h x dx C mA) : ∃ od, InstAt h x (instObj C dx) C (some od) /\ ∀ name, lookIn name od = some (mA name) :=
 let ⟨od, ho, hl⟩ := xn9 I.ns
 ⟨od, ⟨I.obj, rfl, rfl, ho⟩, hl⟩
section
variable {prog : Program} {w : World} {A : Around} {E : Value -> Shared -> Prop} {s : Shared} {K : Frag} {x dx C f : Addr} {mA : Str -> Option Value} {name : Str} {v : Value}
theorem get_map {expr : Bool} {Q : Value -> Shared -> Prop} (X : K.In s.heap) (I : ObjM s.heap x dx C mA) (hg : plainGet K C name = true) (hh : hasDictIn K C = true)
  (ha : findIn K (.ref C) name = some none) (hv : mA name = some v) (hv' : handedIn v = true) (h : Q v { s with toks := s.toks + 1 }) :
  wpAny (model prog w) A (getAttr (.ref x) name expr) Q E s := by
 obtain ⟨od, J, hl⟩ := I.look
 exact get_value X J (plainGet_of hg).1 (findObj_own hh ha rfl (by rw [hl, hv])) hv' h
theorem get_meth {pl : Sem Bool} {Q : Value × List Value -> Shared -> Prop} (X : K.In s.heap) (I : ObjM s.heap x dx C mA) (hg : plainGet K C name = true)
  (hf : findIn K (.ref C) name = some (some (.ref f))) (ht : isFn K (.ref f) = true) (hv : mA name = none) (h : Q (.ref f, [.ref x]) s) :
  wpAny (model prog w) A (getMethod (.ref x) name pl) Q E s := by
 obtain ⟨od, J, hl⟩ := I.look
 exact method_fn X J (plainGet_of hg).1 (plainGet_of hg).2 hf (beq_iff_eq.mp ht) (by show (lookIn name od).map (·.isSome) = some false; rw [hl, hv]; rfl) h
theorem set_map {ns : List Str} {Q : Unit -> Shared -> Prop} (X : K.In s.heap) (I : ObjM s.heap x dx C mA)
  (hs : findIn K (.ref C) "__setattr__" = some (some (.builtin "object.__setattr__"))) (hp : plainOver K C = true) (ht : takerIn K C name = some none) (hh : hasDictIn K C = true)
  (hw : PySem.Within mA ns) (hsz : ns.length <= sizeLine)
  (h : ∀ h', ObjM h' x dx C (fun y => if y = name then some v else mA y) -> Heap.SameBut dx s.heap h' -> Q () { s with heap := h', toks := s.toks + 2 }) :
  wpAny (model prog w) A (setAttr (.ref x) name v) Q E s := by
 obtain ⟨od, J, hl⟩ := I.look
 refine set_plain X J hs (osa_open (s := { s with toks := s.toks + 1 }) (r := none) X J hp ht fun b => ?_)
 obtain ⟨cd, hc, hd'⟩ := any_some hh
 have hx : s.heap.get? x = some ⟨.ref C, some dx, .plain, #[]⟩ := I.obj
 refine wpAny_bind (wpAny_pure (wpAny_bind (wpAny_bind (wpAny_loadPart hx (wpAny_bind (PySem.W.Looks.here (s := { s with toks := s.toks + 1 }) (looks_clsIn X hc) ?_))))))
 rw [hd']
 refine wpAny_pure (a := some dx) (wpAny_bind (wpAny_pure (wpAny_bind ?_)))
 refine wpAny_nsSet1 (s := { s with toks := s.toks + 1 }) I.ns fun h' hn2 hs2 => ?_
 obtain ⟨oD, esD, epD, hoD, hdD, hcD⟩ := hn2.count (PySem.Within.cons name v hw)
 refine wpAny_bind (wpAny_lookBehind hoD (by rw [hdD]; exact pastItsLine_dict (Nat.le_trans hcD (by rw [List.length_cons]; omega))) ?_)
 exact wpAny_pure (h _ ⟨(hs2.2 _ (Ne.symm I.ne)).trans I.obj, hn2, I.ne⟩ hs2)
theorem make_map {R : Result -> Shared -> Prop} {vs : List Value} {kw : List (Str × Value)} (X : K.In s.heap) (hm : makesIn K C = true)
  (hi : findIn K (.ref C) "__init__" = some (some (.ref f))) (hf : typeIn K (.ref f) = some (.type "function"))
  (h : codeAny (model prog w) (A.under (.builtin "type.__call__" ⟨.ref C :: vs, kw⟩)) (.call (.ref f) ⟨.ref (s.heap.objs.size + 1) :: vs, kw⟩) (InitBack (s.heap.objs.size + 1) R)
   { s with heap := (s.heap.push emptyDict).push (instObj C s.heap.objs.size) }) :
  codeAny (model prog w) A (.call (.ref C) ⟨vs, kw⟩) R s := by
 obtain ⟨hh, g, d, t, os⟩ := s
 exact make_core (makes_of X hm) (looks_findIn X hi) (fun self => bind_fn X self hf) (.inl rfl) h
end
def putF (f : Str) (v : V) : List (Str × V) -> List (Str × V)
 | [] => [(f, v)]
 | (g, x) :: r => if g = f then (g, v) :: r else (g, x) :: putF f v r
theorem xx2 (f g : Str) (v : V) : ∀ fs : List (Str × V), (putF f v fs).lookup g = if g = f then some v else fs.lookup g
 | [] => by
  show List.lookup g [(f, v)] = _
  by_cases h : g = f
  ·have hb : (g == f) = true := beq_iff_eq.mpr h
   simp only [List.lookup, hb, if_pos h]
  ·have hb : (g == f) = false := beq_eq_false_iff_ne.mpr h
   simp only [List.lookup, hb, if_neg h]
 | (k, x) :: r => by
  have ih := xx2 f g v r
  rw [show putF f v ((k, x) :: r) = (if k = f then (k, v) :: r else (k, x) :: putF f v r) from rfl]
  by_cases hk : k = f
  ·rw [if_pos hk]
   by_cases h : g = k
   ·have hb : (g == k) = true := beq_iff_eq.mpr h
    simp only [List.lookup, hb, if_pos (h.trans hk)]
   ·have hb : (g == k) = false := beq_eq_false_iff_ne.mpr h
    simp only [List.lookup, hb, if_neg (fun e : g = f => h (e.trans hk.symm))]
  ·rw [if_neg hk]
   by_cases h : g = k
   ·have hb : (g == k) = true := beq_iff_eq.mpr h
    simp only [List.lookup, hb, if_neg (fun e : g = f => hk (h.symm.trans e))]
   ·have hb : (g == k) = false := beq_eq_false_iff_ne.mpr h
    simp only [List.lookup, hb]
    exact ih
theorem xx7 (f : Str) (v : V) : ∀ fs : List (Str × V), f ∈ (putF f v fs).map (·.1) /\ ∀ g, g ∈ fs.map (·.1) -> g ∈ (putF f v fs).map (·.1)
 | [] => ⟨by simp [putF], fun g h => by simp at h⟩
 | (k, x) :: r => by
  obtain ⟨i1, i2⟩ := xx7 f v r
  rw [show putF f v ((k, x) :: r) = (if k = f then (k, v) :: r else (k, x) :: putF f v r) from rfl]
  by_cases hk : k = f
  ·rw [if_pos hk]
   subst hk
   exact ⟨by simp, fun g h => by simpa using h⟩
  ·rw [if_neg hk]
   refine ⟨?_, fun g h => ?_⟩
   ·rw [List.map_cons]
    exact List.mem_cons_of_mem _ i1
   ·rw [List.map_cons] at h ⊢
    rcases List.mem_cons.mp h with e | e
    ·exact List.mem_cons.mpr (.inl e)
    ·exact List.mem_cons_of_mem _ (i2 g e)
theorem xx4 (f : Str) (v : V) : ∀ fs : List (Str × V), (putF f v fs).length <= fs.length + 1
 | [] => by simp [putF]
 | (k, x) :: r => by
  have ih := xx4 f v r
  rw [show putF f v ((k, x) :: r) = (if k = f then (k, v) :: r else (k, x) :: putF f v r) from rfl]
  by_cases hk : k = f
  ·rw [if_pos hk, List.length_cons, List.length_cons]; omega
  ·rw [if_neg hk, List.length_cons, List.length_cons]; omega
theorem RelO.some_of {v : V} {o : Option Value} (r : RelO (some v) o) : ∃ u, o = some u /\ RelV v u := by
 cases o with
 | none => exact (show False from r).elim
 | some u => exact ⟨u, rfl, r⟩
theorem RelO.none_of {o : Option Value} (r : RelO none o) : o = none := by
 cases o with
 | none => rfl
 | some u => exact (show False from r).elim
theorem xx9 {v : V} {u : Value} (r : RelV v u) : handedIn u = true := by
 cases v with
 | non => cases (show u = Value.none from r); rfl
 | bl b => cases (show u = Value.bool b from r); rfl
 | int i => obtain ⟨t, e⟩ := (show ∃ t, u = Value.int i t from r); cases e; rfl
 | str x => obtain ⟨t, e⟩ := (show ∃ t, u = Value.str x t from r); cases e; rfl
 | byt b => obtain ⟨t, e⟩ := (show ∃ t, u = Value.bytes b t from r); cases e; rfl
 | flt b => obtain ⟨t, e⟩ := (show ∃ t, u = Value.float b t from r); cases e; rfl
 | ref a => cases (show u = Value.ref a from r); rfl
 | ty n => cases (show u = Value.type n from r); rfl
section
variable {P : Program} {w : World} {H H' : Hp} {h h' : Heap} {a C dx : Addr} {fs fs' : List (Str × V)}
theorem yf2 (hok : HOk P w H h) (e : H a = some (.ins C dx fs)) : ∃ mA, ObjM h a dx C mA /\ (∀ f, RelO (fs.lookup f) (mA f)) /\ PySem.Within mA (fs.map (·.1)) /\ fs.length <= 1000 /\ H dx = some (.own a) := by
 obtain ⟨d, z, ne, ob, mA, n, r, q⟩ := (show xd4 P w H h a (.ins C dx fs) from hok a _ e)
 exact ⟨mA, ⟨ob, n, ne⟩, r, q, z, d⟩
end
structure Cls (K : Frag) (C : Addr) : Prop where
 pg : plainGet K C Str.empty = true
 hd : hasDictIn K C = true
 po : plainOver K C = true
 sa : findIn K (.ref C) "__setattr__" = some (some (.builtin "object.__setattr__"))
theorem Cls.get {K : Frag} {C : Addr} (c : Cls K C) (f : Str) : plainGet K C f = true := c.pg
def xj9 (K : Frag) (C : Addr) (f : Str) : Prop := findIn K (.ref C) f = some none
theorem xj9.taker {K : Frag} {C : Addr} {f : Str} (n : xj9 K C f) : takerIn K C f = some none := by
 unfold takerIn
 rw [show findIn K (.ref C) f = some none from n]
 rfl
structure Con (K : Frag) (C : Addr) (f : Str) (v : V) (u : Value) : Prop where
 at_ : findIn K (.ref C) f = some (some u)
 rel : RelV v u
 get : specialIn K u "__get__" = some none
 cp : PySem.W.copiedNames.contains f = false
structure Meth (K : Frag) (C : Addr) (m : Str) (f : Addr) : Prop where
 at_ : findIn K (.ref C) m = some (some (.ref f))
 fn : isFn K (.ref f) = true
 kp : keepIn K (.ref f) = true
section
variable {X : Cx} {pins : List (Addr × Obj)} {σ : St} {H : Hp} {s : Shared} {a C dx : Addr} {fs : List (Str × V)} {f : Str} {v : V} {A : Around} {E : Value -> Shared -> Prop}
theorem yv4 {b : Bool} {Q : Value -> Shared -> Prop} (I : Inv X pins σ H s) (e : H a = some (.ins C dx fs)) (c : Cls X.K C) (n : xj9 X.K C f) (l : fs.lookup f = some v)
  (h : ∀ u s', Inv X pins σ H s' -> RelV v u -> Q u s') : wpAny (model X.prog X.w) A (getAttr (.ref a) f b) Q E s := by
 obtain ⟨mA, O, r, _, _, _⟩ := yf2 I.hok e
 obtain ⟨u, hu, ru⟩ := RelO.some_of (v := v) (o := mA f) (by rw [<- l]; exact r f)
 exact get_map I.kIn O (c.get f) c.hd n hu (xx9 ru) (h u _ (I.tok _) ru)
theorem yv3 {m : Str} {g : Addr} {pl : Sem Bool} {Q : Value × List Value -> Shared -> Prop} (I : Inv X pins σ H s) (e : H a = some (.ins C dx fs)) (c : Cls X.K C) (k : Meth X.K C m g) (l : fs.lookup m = none)
  (h : Q (.ref g, [.ref a]) s) : wpAny (model X.prog X.w) A (getMethod (.ref a) m pl) Q E s := by
 obtain ⟨mA, O, r, _, _, _⟩ := yf2 I.hok e
 have hn : mA m = none := RelO.none_of (by rw [<- l]; exact r m)
 exact get_meth I.kIn O (c.get m) k.at_ k.fn hn h
theorem ys5 {y : V} {u : Value} {Q : Unit -> Shared -> Prop} (I : Inv X pins σ H s) (e : H a = some (.ins C dx fs)) (c : Cls X.K C) (n : xj9 X.K C f) (hl : fs.length < 1000) (ry : RelV y u)
  (h : ∀ s', Inv X pins σ (upd H a (.ins C dx (putF f y fs))) s' -> Q () s') : wpAny (model X.prog X.w) A (setAttr (.ref a) f u) Q E s := by
 obtain ⟨mA, O, r, wi, _, ho⟩ := yf2 I.hok e
 have hz : (fs.map (·.1)).length <= sizeLine := by rw [List.length_map, sizeLine_eq]; omega
 refine set_map I.kIn O c.sa c.po n.taker c.hd wi hz fun h' O' sb => h _ ?_
 have hd : ∃ o, h'.get? dx = some o := let ⟨o, _, _, e', _⟩ := O'.ns; ⟨o, e'⟩
 refine I.write (x := a) (e := dx) (by rw [e]; exact True.intro) (.inr ho) (fun b q hb z => (sb.2 b hb).trans z) hd ?_
 refine ⟨by rw [xa3 O.ne]; exact ho, ?_, O.ne, O'.obj, _, O'.ns, fun g => ?_, fun g hg => ?_⟩
 ·have := xx4 f y fs; omega
 ·show RelO ((putF f y fs).lookup g) (if g = f then some u else mA g)
  rw [xx2]
  by_cases q : g = f
  ·rw [if_pos q, if_pos q]; exact ry
  ·rw [if_neg q, if_neg q]; exact r g
 ·by_cases q : g = f
  ·rw [q]; exact (xx7 f y fs).1
  ·refine (xx7 f y fs).2 g (wi g fun z => hg ?_)
   show (if g = f then some u else mA g) = none
   rw [if_neg q]; exact z
theorem Inv.made (I : Inv X pins σ H s) : Inv X pins σ (upd (upd H s.heap.objs.size (.own (s.heap.objs.size + 1))) (s.heap.objs.size + 1) (.ins C s.heap.objs.size []))
  { s with heap := (s.heap.push emptyDict).push (instObj C s.heap.objs.size) } := by
 have e1 : (s.heap.push emptyDict).get? s.heap.objs.size = some emptyDict := Heap.get?_push_size s.heap rfl
 have e2 : ((s.heap.push emptyDict).push (instObj C s.heap.objs.size)).get? (s.heap.objs.size + 1) = some (instObj C s.heap.objs.size) := by
  have := Heap.get?_push_size (s.heap.push emptyDict) (o := instObj C s.heap.objs.size) rfl
  rwa [Heap.size_push] at this
 have e3 : (s.heap.push emptyDict).Ns s.heap.objs.size (fun _ => none) := ⟨emptyDict, #[], _, e1, rfl, (fun e he => absurd he (by simp)), fun _ => rfl⟩
 have I1 := I.laid (a := s.heap.objs.size) (o := .own (s.heap.objs.size + 1)) (h' := s.heap.push emptyDict) (t' := s.toks) (fun b u q => Heap.get?_push_of_some _ q) (Nat.le_refl _) ⟨_, e1⟩
 refine I1.laid (a := s.heap.objs.size + 1) (o := .ins C s.heap.objs.size []) (t' := s.toks) (fun b u q => Heap.get?_push_of_some _ q) (Nat.le_of_eq (Heap.size_push _ _)) ?_
 have ne : s.heap.objs.size ≠ s.heap.objs.size + 1 := Nat.ne_of_lt (Nat.lt_succ_self _)
 refine ⟨by rw [xa3 ne, xa1], Nat.zero_le _, ne, e2, fun _ => none, (Heap.Ns1.of_empty e3).at fun o q => Heap.get?_push_of_some _ q, fun _ => True.intro, fun y hy => absurd rfl hy⟩
theorem yo3 {prog : Program} {w : World} {env : Env} {e : Expr} {f : Str} {pos : Pos} {s : Shared} {Q : Value -> Shared -> Prop} (hb : attributeBase e f env (eval e env) = eval e env)
  (h : wpAny (model prog w) A (eval e env) (fun o s₁ => wpAny (model prog w) A (getAttr o f true) Q E s₁) E s) : wpAny (model prog w) A (eval (.Attribute e f pos) env) Q E s :=
 Attribute_any_ h (by rw [arm_eval_Attribute, hb])
end
def tFld (K : Frag) (ta : TE) (f : Str) : TE := fun σ H Q => ta σ H fun x H1 => ∃ a C dx fs v, x = .ref a /\ H1 a = some (.ins C dx fs) /\ Cls K C /\ xj9 K C f /\ fs.lookup f = some v /\ Q v H1
def sFld (K : Frag) (ta tv : TE) (f : Str) : TS := fun D σ H => tv σ H fun y H1 => ta σ H1 fun x H2 => ∃ a C dx fs, x = .ref a /\ H2 a = some (.ins C dx fs) /\ Cls K C /\ xj9 K C f /\ fs.length < 1000 /\
 D.nx σ (upd H2 a (.ins C dx (putF f y fs)))
section
variable {X : Cx} {o e value : Expr} {f : Str} {pos pos' tpos : Pos} {ta tv : TE}
theorem pe_fld (he : PE X e ta) (hb : attributeBase e f X.env (eval e X.env) = eval e X.env) : PE X (.Attribute e f pos) (tFld X.K ta f) := by
 intro pins s σ H Q I h
 refine yo3 hb (thn (he pins s σ H _ I h) fun u s1 ⟨x, H1, I1, rx, a, C, dx, fs, v, ex, ea, c, n, l, q⟩ => ?_)
 subst ex
 obtain rfl : u = Value.ref a := rx
 exact yv4 I1 ea c n l fun u' s2 I2 ru => ⟨v, H1, I2, ru, q⟩
theorem xq8 (ha : PE X o ta) (hv : PE X value tv) (hs : swapsWith value (some (.Attribute o f pos')) pos.line X.env = pure false) : PS X (.Assign [.Attribute o f pos'] value pos) (sFld X.K ta tv f) := by
 intro pins s σ H D I h
 refine plainObj_wpAny_Assign_Attribute (thn (hv pins s σ H _ I h) fun u s1 ⟨y, H1, I1, ry, q⟩ => thn (ha pins s1 σ H1 _ I1 q) fun ov s2 ⟨x, H2, I2, rx, a, C, dx, fs, ex, ea, c, n, l, q2⟩ => ?_) hs
 subst ex
 obtain rfl : ov = Value.ref a := rx
 exact ys5 I2 ea c n l ry fun s3 I3 => ⟨σ, _, I3, q2⟩
end
section
variable {X : Cx} {pins : List (Addr × Obj)} {σ : St} {H : Hp} {s : Shared} {A : Around} {E : Value -> Shared -> Prop} {Q : Value -> Shared -> Prop} {c : Value} {b : Bool}
inductive TyOf (K : Frag) (H : Hp) : V -> Value -> Prop where
 | non : TyOf K H .non (.type "NoneType")
 | bl (x : Bool) : TyOf K H (.bl x) (.type "bool")
 | int (i : Int) : TyOf K H (.int i) (.type "int")
 | str (x : Str) : TyOf K H (.str x) (.type "str")
 | flt (x : UInt64) : TyOf K H (.flt x) (.type "float")
 | lst {a : Addr} {xs : List V} (e : H a = some (.lst xs)) : TyOf K H (.ref a) (.type "list")
 | frz {a : Addr} {o : Obj} {xs : List V} (e : H a = some (.frz o (.lst xs))) : TyOf K H (.ref a) (.type "list")
 | tup {a : Addr} {xs : List V} (e : H a = some (.tup xs)) : TyOf K H (.ref a) (.type "tuple")
 | dK {a : Addr} {kvs : List (Key × V)} (e : H a = some (.dK kvs)) : TyOf K H (.ref a) (.type "dict")
 | dT {a : Addr} {kvs : List (List Key × V)} (e : H a = some (.dT kvs)) : TyOf K H (.ref a) (.type "dict")
 | ins {a C dx : Addr} {fs : List (Str × V)} (e : H a = some (.ins C dx fs)) (cl : Cls K C) (ha : findIn K (.ref C) "__class__" = some (some (.builtin "object.__class__")))
   (hn : specialIn K (.builtin "object.__class__") "__get__" = some (some (.builtin "getset_descriptor.__get__"))) (htk : takesIn K (.builtin "object.__class__") = some true)
   (hm : mroIn K C (.type "object") = some true) : TyOf K H (.ref a) (.ref C)
theorem yj6 {x : V} {u t : Value} (I : Inv X pins σ H s) (rx : RelV x u) (ty : TyOf X.K H x t) (e : kitOne X.K t c = some b) (h : ∀ tk, Q (.bool b) { s with toks := tk }) :
  wpAny (model X.prog X.w) A (call (.builtin "isinstance") [u, c]) Q E s := by
 cases ty with
 | non => cases (show u = Value.none from rx); exact kia_one kitx_none I.kIn True.intro e (fun z => nomatch z) h
 | bl y => cases (show u = Value.bool y from rx); exact kia_one kitx_bool I.kIn True.intro e (fun z => nomatch z) h
 | int i => obtain ⟨t, q⟩ := (show ∃ t, u = Value.int i t from rx); cases q; exact kia_one kitx_int I.kIn True.intro e (fun z => nomatch z) h
 | str y => obtain ⟨t, q⟩ := (show ∃ t, u = Value.str y t from rx); cases q; exact kia_one kitx_str I.kIn True.intro e (fun z => nomatch z) h
 | flt y => obtain ⟨t, q⟩ := (show ∃ t, u = Value.float y t from rx); cases q; exact kia_one kitx_float I.kIn True.intro e (fun z => nomatch z) h
 | @lst a xs ea =>
  cases (show u = Value.ref a from rx)
  obtain ⟨_, _, n, _, h1⟩ := (show xd4 X.prog X.w H s.heap a (.lst xs) from I.hok a _ ea)
  exact kia_one kitx_list I.kIn ⟨_, h1, rfl⟩ e (fun z => nomatch z) h
 | @frz a ob xs ea =>
  cases (show u = Value.ref a from rx)
  obtain ⟨_, _, _, n, _, h1⟩ := (show xd4 X.prog X.w H s.heap a (.frz ob (.lst xs)) from I.hok a _ ea)
  exact kia_one kitx_list I.kIn ⟨_, h1, rfl⟩ e (fun z => nomatch z) h
 | @tup a xs ea =>
  cases (show u = Value.ref a from rx)
  obtain ⟨_, _, _, p⟩ := (show xd4 X.prog X.w H s.heap a (.tup xs) from I.hok a _ ea)
  obtain ⟨o, h1, h2, _⟩ := p
  exact kia_one kitx_tuple I.kIn ⟨o, h1, h2⟩ e (fun z => nomatch z) h
 | @dK a kvs ea =>
  cases (show u = Value.ref a from rx)
  obtain ⟨_, _, vs, _, p⟩ := (show xd4 X.prog X.w H s.heap a (.dK kvs) from I.hok a _ ea)
  obtain ⟨o, es, ep, h1, h2, _⟩ := p
  exact kia_one kitx_dict I.kIn ⟨o, h1, h2.1⟩ e (fun z => nomatch z) h
 | @dT a kvs ea =>
  cases (show u = Value.ref a from rx)
  obtain ⟨_, _, xs, _, o, es, ep, h1, h2, _⟩ := (show xd4 X.prog X.w H s.heap a (.dT kvs) from I.hok a _ ea)
  exact kia_one kitx_dict I.kIn ⟨o, h1, h2.1⟩ e (fun z => nomatch z) h
 | @ins a C dx fs ea cl ha hn htk hm =>
  cases (show u = Value.ref a from rx)
  obtain ⟨mA, O, _⟩ := yf2 I.hok ea
  obtain ⟨od, J, _⟩ := O.look
  exact kia_one (kitx_own (cl.get _) cl.hd ha hn htk hm) I.kIn J e (fun z => nomatch z) h
end
structure Room (k : Nat) (A : Around) : Prop where
 hd : A.handled = none
 dp : A.depth + 3 * k + 5 < recursionLimit
 un : A.units + 16 * k + 200 < cLine
theorem Room.mono {j k : Nat} {A : Around} (r : Room k A) (h : j <= k) : Room j A := ⟨r.hd, by have := r.dp; omega, by have := r.un; omega⟩
theorem Room.deeper {k : Nat} {A : Around} (r : Room (k + 1) A) (env : Env) : Room k (A.deeper env) :=
 ⟨r.hd, by have := r.dp; show A.depth + 1 + 3 * k + 5 < _; omega, by have := r.un; show A.units + 3 + 16 * k + 200 < _; omega⟩
theorem Room.in1 {k : Nat} {A : Around} (r : Room (k + 1) A) : Room k A.in1 :=
 ⟨r.hd, by have := r.dp; show A.depth + 3 * k + 5 < _; omega, by have := r.un; show A.units + 1 + 16 * k + 200 < _; omega⟩
theorem yu6 {A : Around} {C : Addr} {us : List Value} {kw : List (Str × Value)} : (A.under (.builtin "type.__call__" ⟨.ref C :: us, kw⟩)).depth = A.depth + 1 := by
 first | rfl | simp [Around.under, Code.weight, Code.isCreation, Code.isGuard, Code.isCaller, Code.frames, Code.isFrame, guardIds]
theorem yu5 {A : Around} {C : Addr} {us : List Value} {kw : List (Str × Value)} : (A.under (.builtin "type.__call__" ⟨.ref C :: us, kw⟩)).units = A.units + 1 := by
 first | rfl | simp [Around.under, Code.cUnits, Code.frames, Code.isFrame]
theorem Room.make {k : Nat} {A : Around} (r : Room (k + 1) A) (C : Addr) (us : List Value) (kw : List (Str × Value)) : Room k (A.under (.builtin "type.__call__" ⟨.ref C :: us, kw⟩)) :=
 ⟨r.hd, by have := r.dp; rw [yu6]; omega, by have := r.un; rw [yu5]; omega⟩
theorem Room.depth {k : Nat} {A : Around} (r : Room k A) : A.depth < recursionLimit := by have := r.dp; omega
theorem Room.units {k : Nat} {A : Around} (r : Room k A) : A.units + 64 < cLine := by have := r.un; omega
def tNil : TA := fun _ H Q => Q [] H
def xn4 (ta : TE) (tr : TA) : TA := fun σ H Q => ta σ H fun x H1 => tr σ H1 fun xs H2 => Q (x :: xs) H2
section
variable {X : Cx} {e : Expr} {es : List Expr} {te : TE} {t : TA} {pos : Pos}
theorem xa2 : PA X [] tNil := fun _ _ _ _ H Q I h => Calls.spliced_nil ⟨[], H, I, .nil, h⟩
theorem xa0 (ha : PE X e te) (hr : PA X es t) (hs : starEach (e :: es) X.env = (false, eval e X.env) :: starEach es X.env := by rfl) : PA X (e :: es) (xn4 te t) := by
 intro pos pins s σ H Q I h
 rw [hs]
 show wpAny _ _ (spliced ((false, eval e X.env) :: backTo pos (starEach es X.env))) _ _ s
 refine Calls.spliced_cons (thn (ha pins s σ H _ I h) fun u s1 ⟨x, H1, I1, r1, q1⟩ => ?_)
 exact thn (hr pos pins s1 σ H1 _ I1 q1) fun us s2 ⟨xs, H2, I2, r2, q2⟩ => ⟨x :: xs, H2, I2, .cons r1 r2, q2⟩
end
abbrev Sp := List V -> Hp -> VK -> XK -> Prop
abbrev CXT := List Env -> Hp -> Shared -> XK -> Value -> Shared -> Prop
structure Env0 (P : Program) (w : World) (K : Frag) (mg : Str -> Option Value) (base : Heap) (A : Around) (outer : List Env) (s : Shared) (H : Hp) : Prop where
 frames : A.frames = some outer
 mod : Mod K mg base
 bs : ∀ b o, base.get? b = some o -> s.heap.get? b = some o /\ H b = none
 bsz : base.objs.size <= s.heap.objs.size
 funs : s.heap.FunFrames base outer
 frf : ∀ b ∈ frs outer, H b = none
 hok : HOk P w H s.heap
 bare : AllBare s.gens
def CE (outer : List Env) (P : Program) (w : World) (H : Hp) (s : Shared) (Q : VK) (u : Value) (s' : Shared) : Prop :=
 ∃ v H', s'.os = s.os /\ AllBare s'.gens /\ Un (frs outer) [] H H' s.heap s'.heap /\ HOk P w H' s'.heap /\ RelV v u /\ Q v H'
def CR (CX : CXT) (outer : List Env) (P : Program) (w : World) (H : Hp) (s : Shared) (Q : VK) (E : XK) (r : Result) (s' : Shared) : Prop :=
 match r with
 | .ok (.ret u) => CE outer P w H s Q u s'
 | .ok _ => False
 | .error e => CX outer H s E e s'
structure FnOk (P : Program) (w : World) (K : Frag) (mg : Str -> Option Value) (base : Heap) (CX : CXT) (k : Nat) (f : Addr) (fd : FuncData) (ps : List Str) (sp : Sp) : Prop where
 len : ∀ vs H Q E, sp vs H Q E -> vs.length = ps.length
 run : ∀ (A : Around) (outer : List Env) (s : Shared) (H : Hp) (args : Args) (us : List Value) (vs : List V) (Q : VK) (E : XK), Room k A -> Env0 P w K mg base A outer s H -> BindsTo s fd args (ps.zip us) -> Vals vs us -> sp vs H Q E ->
  codeAny (model P w) A (.call (.ref f) args) (CR CX outer P w H s Q E) s
theorem FnOk.mono {P : Program} {w : World} {K : Frag} {mg : Str -> Option Value} {base : Heap} {CX : CXT} {j k : Nat} {f : Addr} {fd : FuncData} {ps : List Str} {sp : Sp} (F : FnOk P w K mg base CX j f fd ps sp) (h : j <= k) :
  FnOk P w K mg base CX k f fd ps sp := ⟨F.len, fun A outer s H args us vs Q E hr => F.run A outer s H args us vs Q E (hr.mono h)⟩
theorem FnOk.imp {P : Program} {w : World} {K : Frag} {mg : Str -> Option Value} {base : Heap} {CX : CXT} {k : Nat} {f : Addr} {fd : FuncData} {ps : List Str} {sp sp' : Sp} (F : FnOk P w K mg base CX k f fd ps sp)
  (h : ∀ vs H Q E, sp' vs H Q E -> sp vs H Q E) : FnOk P w K mg base CX k f fd ps sp' :=
 ⟨fun vs H Q E q => F.len vs H Q E (h _ _ _ _ q), fun A outer s H args us vs Q E hr he hb hv hs => F.run A outer s H args us vs Q E hr he hb hv (h _ _ _ _ hs)⟩
theorem Env0.make {P : Program} {w : World} {K : Frag} {mg : Str -> Option Value} {base : Heap} {A : Around} {outer : List Env} {s : Shared} {H : Hp} (e : Env0 P w K mg base A outer s H) (C : Addr) (us : List Value) (kw : List (Str × Value)) :
  Env0 P w K mg base (A.under (.builtin "type.__call__" ⟨.ref C :: us, kw⟩)) outer s H := ⟨by first | exact e.frames | (simpa [Around.under, Code.envs, Code.isFrame, pushEnvs] using e.frames), e.mod, e.bs, e.bsz, e.funs, e.frf, e.hok, e.bare⟩
theorem Env0.in1 {P : Program} {w : World} {K : Frag} {mg : Str -> Option Value} {base : Heap} {A : Around} {outer : List Env} {s : Shared} {H : Hp} (e : Env0 P w K mg base A outer s H) :
  Env0 P w K mg base A.in1 outer s H := ⟨e.frames, e.mod, e.bs, e.bsz, e.funs, e.frf, e.hok, e.bare⟩
section
variable {X : Cx} {pins : List (Addr × Obj)} {σ : St} {H : Hp} {s s' : Shared}
theorem Inv.env0 (I : Inv X pins σ H s) : Env0 X.prog X.w X.K X.mg X.base X.A X.stack s H :=
 ⟨I.ok.frames, I.ok.mod, I.bs, Nat.le_trans I.ok.bsz I.sz, I.stack, I.stkFree, I.hok, I.bare⟩
theorem Inv.after {Q : VK} {u : Value} (I : Inv X pins σ H s) (h : CE X.stack X.prog X.w H s Q u s') : EP X pins σ Q u s' := by
 obtain ⟨v, H', os, bare, un, hok, r, q⟩ := h
 obtain ⟨hh, g, d, t, os'⟩ := s'
 obtain rfl : os' = s.os := os
 exact ⟨v, H', I.call (h' := hh) (g' := g) (d' := d) (t' := t) (ch := []) un hok bare (fun b z => absurd z (by simp)), r, q⟩
end
def tCall (sp : Sp) (dvs : List V) (E : XK) (t : TA) : TE := fun σ H Q => t σ H fun vs H1 => sp (vs ++ dvs) H1 Q E
def tMeth (C : Addr) (m : Str) (sp : Sp) (dvs : List V) (E : XK) (ta : TE) (t : TA) : TE := fun σ H Q => ta σ H fun x H1 => ∃ a dx fs, x = .ref a /\ H1 a = some (.ins C dx fs) /\ fs.lookup m = none /\
 t σ H1 fun vs H2 => sp (x :: (vs ++ dvs)) H2 Q E
def tMake (C : Addr) (sp : Sp) (dvs : List V) (E : XK) (t : TA) : TE := fun σ H Q => t σ H fun vs H1 => ∀ x dx, H1 x = none -> H1 dx = none -> dx ≠ x ->
 sp (.ref x :: (vs ++ dvs)) (upd (upd H1 dx (.own x)) x (.ins C dx [])) (fun v H2 => v = .non /\ Q (.ref x) H2) E
def xc5 (K : Frag) (fd : FuncData) (ps : List Str) (ds : List Value) : Prop :=
 ∀ (s : Shared) (us : List Value), K.In s.heap -> (us ++ ds).length = ps.length -> BindsTo s fd ⟨us, []⟩ (ps.zip (us ++ ds))
theorem xc5.all {K : Frag} {fd : FuncData} {ps : List Str} (h : ∀ us : List Value, us.length = ps.length -> bindArgs fd ⟨us, []⟩ = pure (ps.zip us)) : xc5 K fd ps [] := fun s us _ hl => by
 rw [List.append_nil] at hl ⊢
 exact .of_eq (h us hl)
def xt8 (CX : CXT) (X : Cx) (E : XK) : Prop := ∀ (pins : List (Addr × Obj)) (σ : St) (H : Hp) (s : Shared) (e : Value) (s' : Shared), Inv X pins σ H s -> CX X.stack H s E e s' -> X.xe e s'
section
variable {X : Cx} {CX : CXT} {k : Nat} {f C : Addr} {fd : FuncData} {ps : List Str} {sp : Sp} {dvs : List V} {ds : List Value} {E : XK} {x m : Str} {p pos apos : Pos} {e o : Expr} {es : List Expr} {ta : TE} {t : TA}
theorem run_fn {pins : List (Addr × Obj)} {σ : St} {H : Hp} {s : Shared} {Q : VK} {us : List Value} {vs : List V} (F : FnOk X.prog X.w X.K X.mg X.base CX k f fd ps sp) (hr : Room k X.A) (hb : xc5 X.K fd ps ds) (hd : Vals dvs ds) (hx : xt8 CX X E)
  (I : Inv X pins σ H s) (r : Vals vs us) (h : sp (vs ++ dvs) H Q E) : wpAny (model X.prog X.w) X.A (call (.ref f) us) (EP X pins σ Q) X.xe s := by
 have r2 : Vals (vs ++ dvs) (us ++ ds) := r.append hd
 have hl : (us ++ ds).length = ps.length := by rw [<- r2.length]; exact F.len _ _ _ _ h
 refine wpAny_call (codeAny_mono (F.run X.A X.stack s H ⟨us, []⟩ (us ++ ds) (vs ++ dvs) Q E hr I.env0 (hb s us I.kIn hl) r2 h) fun r s' hq => ?_)
 cases r with
 | error e => exact hx pins σ H s e s' I hq
 | ok fl =>
  cases fl with
  | ret u => exact I.after hq
  | next => exact False.elim hq
  | brk => exact False.elim hq
  | cont => exact False.elim hq
theorem xa8 (F : FnOk X.prog X.w X.K X.mg X.base CX k f fd ps sp) (hr : Room k X.A) (hg : Gl X x) (hm : X.mg x = some (.ref f)) (hk : keepIn X.K (.ref f) = true) (hb : xc5 X.K fd ps ds) (hd : Vals dvs ds) (hx : xt8 CX X E)
  (ha : PA X (e :: es) t) (hdb : (x == ("__debug__" : Str)) = false := by decide) (he : starEach (e :: es) X.env = (false, eval e X.env) :: starEach es X.env := by rfl) (hpl : (backTo pos (starEach es X.env)).any (·.1) = false := by rfl) :
  PE X (.Call (.Name x p) (e :: es) [] pos) (tCall sp dvs E t) := by
 intro pins s σ H Q I h
 refine wpAny_Call_Name_kw (xm8 I hg hm ?_ hdb)
 refine callWith_K (h₀ := X.base) I.ok.mod.kin hk (thn (ha pos pins s σ H _ I h) fun us s1 ⟨vs, H1, I1, r, q⟩ => ⟨I1.kIn, ?_⟩) he hpl
 exact run_fn F hr hb hd hx I1 r q
theorem pe_meth0 {pl : Sem Bool} (he : PE X o ta) (c : Cls X.K C) (hm : Meth X.K C m f) (F : FnOk X.prog X.w X.K X.mg X.base CX k f fd ps sp) (hr : Room k X.A) (hb : xc5 X.K fd ps ds) (hd : Vals dvs ds) (hx : xt8 CX X E)
  (ht : eval (.Call (.Attribute o m apos) [] [] pos) X.env = (do
   let ov <- eval o X.env
   standAt apos.atName
   let (f, first) <- holding [ov] (getMethod ov m pl)
   callWith pos f first (backTo pos (starEach [] X.env)) (backToKw pos (keywordEach [] X.env))) := by rfl) :
  PE X (.Call (.Attribute o m apos) [] [] pos) (tMeth C m sp dvs E ta tNil) := by
 intro pins s σ H Q I h
 refine methodCall_KW (pl := pl) (thn (he pins s σ H _ I h) fun u s1 ⟨x, H1, I1, rx, a, dx, fs, ex, ea, l, q⟩ => ?_) ht
 subst ex
 obtain rfl : u = Value.ref a := rx
 refine yv3 I1 ea c hm l ?_
 exact callWith_K0 (first := [.ref a]) I1.kIn hm.kp (run_fn (us := [.ref a]) (vs := [.ref a]) F hr hb hd hx I1 (.cons rfl .nil) q)
structure Mk (K : Frag) (C f : Addr) : Prop where
 makes : makesIn K C = true
 init : findIn K (.ref C) "__init__" = some (some (.ref f))
 fn : isFn K (.ref f) = true
 kp : keepIn K (.ref C) = true
theorem run_make {pins : List (Addr × Obj)} {σ : St} {H : Hp} {s : Shared} {Q : VK} {us : List Value} {vs : List V} (M : Mk X.K C f) (F : FnOk X.prog X.w X.K X.mg X.base CX k f fd ps sp) (hr : Room (k + 1) X.A) (hb : xc5 X.K fd ps ds) (hd : Vals dvs ds)
  (hx : xt8 CX X E) (I : Inv X pins σ H s) (r : Vals vs us)
  (h : ∀ x dx, H x = none -> H dx = none -> dx ≠ x -> sp (.ref x :: (vs ++ dvs)) (upd (upd H dx (.own x)) x (.ins C dx [])) (fun v H2 => v = .non /\ Q (.ref x) H2) E) :
  wpAny (model X.prog X.w) X.A (call (.ref C) us) (EP X pins σ Q) X.xe s := by
 have hq := h (s.heap.objs.size + 1) s.heap.objs.size (I.hok.fresh (Nat.le_succ _)) (I.hok.fresh (Nat.le_refl _)) (Nat.ne_of_lt (Nat.lt_succ_self _))
 have I2 := Inv.made (C := C) I
 have r2 : Vals (V.ref (s.heap.objs.size + 1) :: (vs ++ dvs)) (Value.ref (s.heap.objs.size + 1) :: (us ++ ds)) := .cons rfl (r.append hd)
 have hl : (Value.ref (s.heap.objs.size + 1) :: us ++ ds).length = ps.length := by
  have e := r2.length
  rw [F.len _ _ _ _ hq] at e
  exact e.symm
 refine wpAny_call (make_map (f := f) I.kIn M.makes M.init (beq_iff_eq.mp M.fn) (codeAny_mono (F.run _ X.stack _ _ ⟨Value.ref (s.heap.objs.size + 1) :: us, []⟩ (Value.ref (s.heap.objs.size + 1) :: (us ++ ds)) _ _ E (hr.make C us [])
  (I2.env0.make C us []) (hb _ (Value.ref (s.heap.objs.size + 1) :: us) I2.kIn hl) r2 hq) fun r s' hq' => ?_))
 cases r with
 | error e => exact hx pins σ _ _ e s' I2 hq'
 | ok fl =>
  cases fl with
  | ret u =>
   obtain ⟨v, H', I3, rv, ev, q3⟩ := I2.after hq'
   subst ev
   exact ⟨rv, ⟨V.ref (s.heap.objs.size + 1), H', I3, rfl, q3⟩⟩
  | next => exact False.elim hq'
  | brk => exact False.elim hq'
  | cont => exact False.elim hq'
theorem ye1 (M : Mk X.K C f) (F : FnOk X.prog X.w X.K X.mg X.base CX k f fd ps sp) (hr : Room (k + 1) X.A) (hg : Gl X x) (hm : X.mg x = some (.ref C)) (hb : xc5 X.K fd ps ds) (hd : Vals dvs ds) (hx : xt8 CX X E)
  (ha : PA X (e :: es) t) (hdb : (x == ("__debug__" : Str)) = false := by decide) (he : starEach (e :: es) X.env = (false, eval e X.env) :: starEach es X.env := by rfl) (hpl : (backTo pos (starEach es X.env)).any (·.1) = false := by rfl) :
  PE X (.Call (.Name x p) (e :: es) [] pos) (tMake C sp dvs E t) := by
 intro pins s σ H Q I h
 refine wpAny_Call_Name_kw (xm8 I hg hm ?_ hdb)
 refine callWith_K (h₀ := X.base) I.ok.mod.kin M.kp (thn (ha pos pins s σ H _ I h) fun us s1 ⟨vs, H1, I1, r, q⟩ => ⟨I1.kIn, ?_⟩) he hpl
 exact run_make M F hr hb hd hx I1 r q
end
section
variable {X : Cx} {CX : CXT} {k : Nat} {f C : Addr} {fd : FuncData} {ps ks : List Str} {sp : Sp} {E : XK} {x m : Str} {p pos apos kpos : Pos} {e o : Expr} {es : List Expr} {kws : List Keyword} {te ta : TE} {t tk : TA} {nm : Option Str}
structure KBinds (K : Frag) (fd : FuncData) (ps ks : List Str) (g : List Value -> List Value -> List Value) (gV : List V -> List V -> List V) : Prop where
 to : ∀ (s : Shared) (us ws : List Value), K.In s.heap -> (g us ws).length = ps.length -> BindsTo s fd ⟨us, ks.zip ws⟩ (ps.zip (g us ws))
 rel : ∀ {vs : List V} {us : List Value} {zs : List V} {ws : List Value}, Vals vs us -> Vals zs ws -> Vals (gV vs zs) (g us ws)
variable {g : List Value -> List Value -> List Value} {gV : List V -> List V -> List V}
end
structure FnScope (N P : List Str) (sc : Scope) : Prop where
 kind : sc.kind = .function
 co : sc.isCoroutine = false
 gen : sc.isGenerator = false
 nd : N.Nodup
 pre : N.take P.length = P
 par : ∀ x ∈ P, sc.names.lookup x = some .local \/ sc.names.lookup x = some .cell
 nofree : ∀ y ∈ sc.names, y.2 ≠ .free
theorem yl3 {kindOf : Str -> Option NameKind} {x : Str} : ∀ {binds : List (Str × Value)} {m : Str -> Option Value}, (∀ v, (x, v) ∉ binds) -> bindL kindOf binds m x = m x
 | [], _, _ => rfl
 | (n, v) :: r, m, h => by
  unfold bindL
  rw [yl3 fun w hw => h w (List.mem_cons_of_mem _ hw)]
  split
  ·have : x ≠ n := by rintro rfl; exact h v List.mem_cons_self
   simp [this]
  ·rfl
theorem yl5 {kindOf : Str -> Option NameKind} {x : Str} : ∀ {binds : List (Str × Value)} {m : Str -> Option Value}, (∀ v, (x, v) ∉ binds) -> bindC kindOf binds m x = m x
 | [], _, _ => rfl
 | (n, v) :: r, m, h => by
  unfold bindC
  rw [yl5 fun w hw => h w (List.mem_cons_of_mem _ hw)]
  split
  ·rfl
  ·have : x ≠ n := by rintro rfl; exact h v List.mem_cons_self
   simp [this]
theorem yl4 {kindOf : Str -> Option NameKind} {x : Str} {v : Value} : ∀ {P : List Str} {vs : List Value} {i : Nat} {m : Str -> Option Value}, P.Nodup -> P[i]? = some x -> vs[i]? = some v -> kindOf x = some .local ->
  bindL kindOf (P.zip vs) m x = some v
 | [], _, _, _, _, h, _, _ => by simp at h
 | _ :: _, [], _, _, _, _, h, _ => by simp at h
 | p :: P, w :: vs, 0, m, nd, h1, h2, hk => by
  simp at h1 h2; subst h1; subst h2
  show bindL kindOf ((p, w) :: P.zip vs) m p = _
  unfold bindL
  rw [yl3 fun v hv => (List.nodup_cons.mp nd).1 (List.of_mem_zip hv).1, if_pos hk]
  simp
 | p :: P, w :: vs, i + 1, m, nd, h1, h2, hk => by
  show bindL kindOf ((p, w) :: P.zip vs) m x = _
  unfold bindL
  exact yl4 (i := i) (List.nodup_cons.mp nd).2 (by simpa using h1) (by simpa using h2) hk
theorem yl6 {kindOf : Str -> Option NameKind} {x : Str} {v : Value} : ∀ {P : List Str} {vs : List Value} {i : Nat} {m : Str -> Option Value}, P.Nodup -> P[i]? = some x -> vs[i]? = some v -> kindOf x ≠ some .local ->
  bindC kindOf (P.zip vs) m x = some v
 | [], _, _, _, _, h, _, _ => by simp at h
 | _ :: _, [], _, _, _, _, h, _ => by simp at h
 | p :: P, w :: vs, 0, m, nd, h1, h2, hk => by
  simp at h1 h2; subst h1; subst h2
  show bindC kindOf ((p, w) :: P.zip vs) m p = _
  unfold bindC
  rw [yl5 fun v hv => (List.nodup_cons.mp nd).1 (List.of_mem_zip hv).1, if_neg hk]
  simp
 | p :: P, w :: vs, i + 1, m, nd, h1, h2, hk => by
  show bindC kindOf ((p, w) :: P.zip vs) m x = _
  unfold bindC
  exact yl6 (i := i) (List.nodup_cons.mp nd).2 (by simpa using h1) (by simpa using h2) hk
def start (N : List Str) (vs : List V) : St := vs.map some ++ List.replicate (N.length - vs.length) none
def cxOf (CX : CXT) (P : Program) (w : World) (K : Frag) (mg : Str -> Option Value) (base : Heap) (N : List Str) (qual : Str) (scope : Scope) (f : Addr) (cd : Value) (A : Around) (outer : List Env) (s : Shared) (H : Hp) (E : XK) : Cx where
 prog := P
 w := w
 K := K
 mg := mg
 base := base
 A := A.deeper (envOfC qual scope s.heap.objs.size f cd)
 N := N
 s₀ := s
 H₀ := H
 env := envOfC qual scope s.heap.objs.size f cd
 outer := outer
 stack := envOfC qual scope s.heap.objs.size f cd :: outer
 ex := []
 calm := true
 fn := fun _ => true
 pn := []
 xe := fun e s' => wpAny (model P w) (A.deeper (envOfC qual scope s.heap.objs.size f cd)) (leaving (envOfC qual scope s.heap.objs.size f cd) e) (fun _ s'' => CX outer H s E e s'') (fun e' s'' => CX outer H s E e' s'') s'
theorem yr6 {sc : Scope} {n : Nat} {x : Str} (h : sc.names.lookup x = some .cell) : ∃ c, (cellsFrom n sc.names []).lookup x = some c := by
 have q := cellsFrom_some sc.names n [] (.inl h)
 exact Option.isSome_iff_exists.mp q
theorem zc5 {CX : CXT} {P : Program} {w : World} {K : Frag} {mg : Str -> Option Value} {base : Heap} {N ps : List Str} {qual : Str} {scope : Scope} {f : Addr} {cd : Value} {A : Around} {outer : List Env} {s s1 : Shared} {H : Hp} {E : XK} {us : List Value} {vs : List V}
  (S : FnScope N ps scope) (hd : A.handled = none) (e0 : Env0 P w K mg base A outer s H) (hl : vs.length = ps.length) (r : Vals vs us)
  (x : InCallC s s.heap.objs.size (bindL (envOfC qual scope s.heap.objs.size f cd).kindOf (ps.zip us) fun _ => none) (cellsFrom (s.heap.objs.size + 1) scope.names []) (bindC (envOfC qual scope s.heap.objs.size f cd).kindOf (ps.zip us) fun _ => none) s1) :
  Inv (cxOf CX P w K mg base N qual scope f cd A outer s H E) [] (start N vs) H s1 := by
 have hpl : ps.length <= N.length := by have := congrArg List.length S.pre; rw [List.length_take] at this; omega
 obtain ⟨h1, tk, rfl, hk⟩ := x.done
 have noA : ∀ b : Addr, b ∉ (cxOf CX P w K mg base N qual scope f cd A outer s H E).ex := fun b z => absurd (show b ∈ ([] : List Addr) from z) (by simp)
 refine ⟨⟨e0.mod, S.kind, rfl, rfl, Nat.le_refl _, fun y z c h1 h2 => ?_, fun y hy => ?_, fun y c _ h => ?_, fun _ => hd, Around.frames_deeper e0.frames, .inr ⟨rfl, rfl⟩, fun b z => absurd z (noA b), e0.bs, e0.bsz, fun b _ _ => noA b, fun b z => absurd z (noA b), e0.funs, e0.frf⟩,
  rfl, e0.bare, Un.kept hk, ⟨_, x.toInCall.ns, fun i y v h1 h2 h3 => ?_⟩, fun y c h => ⟨_, x.cell y c h⟩, e0.hok.fresh (Nat.le_refl _), fun y c h => ?_, fun p hp => absurd (show p ∈ ([] : List (Addr × Obj)) from hp) (by simp), e0.hok.kept hk, ?_⟩
 ·exact name_of_addr x.apart (PySem.mem_of_lookup h1) (PySem.mem_of_lookup h2)
 ·have hy : scope.names.lookup y = some .cell \/ scope.names.lookup y = some .free := hy
  rcases hy with hy | hy
  ·exact yr6 hy
  ·exact absurd rfl (S.nofree _ (PySem.mem_of_lookup hy))
 ·exact Nat.le_of_lt (x.above y c (PySem.mem_of_lookup h))
 ·have hi : i < vs.length := by
   unfold start at h2
   by_cases hi : i < vs.length
   ·exact hi
   ·rw [List.getElem?_append_right (by simpa using hi)] at h2
    rw [List.getElem?_replicate] at h2
    split at h2 <;> cases h2
  have ha : vs[i]? = some v := by
   unfold start at h2
   rw [List.getElem?_append_left (by simpa using hi), List.getElem?_map] at h2
   cases e : vs[i]? with
   | none => rw [e] at h2; cases h2
   | some a => rw [e] at h2; cases h2; rfl
  obtain ⟨u, hu, rv⟩ := r.get ha
  have hp : ps[i]? = some y := by
   rw [<- S.pre, List.getElem?_take_of_lt (by omega)]; exact h1
  have ndP : ps.Nodup := by rw [<- S.pre]; exact S.nd.sublist (List.take_sublist _ _)
  refine ⟨u, rv, ?_⟩
  rcases S.par y (List.mem_of_getElem? hp) with k | k
  ·exact .inl ⟨k, yl4 ndP hp hu k⟩
  ·obtain ⟨c, e⟩ := yr6 (n := s.heap.objs.size + 1) k
   refine .inr ⟨.inl k, c, e, ?_⟩
   have q := x.cell y c e
   rw [yl6 ndP hp hu (by show scope.names.lookup y ≠ _; rw [k]; decide)] at q
   exact q
 ·exact e0.hok.fresh (Nat.le_of_lt (x.above y c (PySem.mem_of_lookup h)))
 ·unfold start
  show _ = N.length
  rw [List.length_append, List.length_map, List.length_replicate]
  omega
theorem fn_of {CX : CXT} {P : Program} {w : World} {K : Frag} {mg : Str -> Option Value} {base : Heap} {k : Nat} {f : Addr} {name qual : Str} {params : Arguments} {body : List Stmt} {scope : Scope} {dV kV doc pm cdv ct oc : Value} {an od : Option Addr}
  {osl : Array (Option Value)} {N ps : List Str} {sp : Sp} (lk : K.lookup f = some ⟨oc, od, .func (fnOf name qual params body scope dV kV doc pm an cdv ct), osl⟩) (hcd : codeIn K cdv qual = true) (S : FnScope N ps scope)
  (len : ∀ vs H Q E, sp vs H Q E -> vs.length = ps.length)
  (hbody : ∀ (A : Around) (outer : List Env) (s : Shared) (H : Hp) (vs : List V) (Q : VK) (E : XK), Room k (A.deeper (envOfC qual scope s.heap.objs.size f cdv)) -> sp vs H Q E ->
   ∃ t, PSs (cxOf CX P w K mg base N qual scope f cdv A outer s H E) body t /\ t { nx := fun _ H' => Q .non H', rt := Q } (start N vs) H) :
  FnOk P w K mg base CX (k + 1) f (fnOf name qual params body scope dV kV doc pm an cdv ct) ps sp := by
 refine ⟨len, fun A outer s H args us vs Q E hr e0 hb r hsp => ?_⟩
 have hl := len _ _ _ _ hsp
 have KX : K.In s.heap := e0.mod.kin.keeps fun b o e => (e0.bs b o e).1
 have lim : s.heap.NoLimit := e0.mod.nolimit.keeps fun b o e => (e0.bs b o e).1
 have hkind : ∀ y ∈ ps.zip us, scope.names.lookup y.1 = some .local \/ (scope.names.lookup y.1 = some .cell /\ ((cellsFrom (s.heap.objs.size + 1) scope.names []).lookup y.1).isSome = true) := fun ⟨n, v⟩ hy => by
  rcases S.par n (List.of_mem_zip hy).1 with q | q
  ·exact .inl q
  ·exact .inr ⟨q, cellsFrom_some _ _ _ (.inl q)⟩
 refine codeAny_call_function hr.depth (KX _ _ lk) rfl S.co S.gen rfl (codeRec_of KX hcd) (hb _ _ _ _ ?_)
 refine wpAny_newFunctionEnv_cells S.kind hkind fun env he s1 x => ?_
 subst he
 refine ⟨lim.keeps x.toInCall.keep, codeAny_func ?_⟩
 obtain ⟨t, ht, hq⟩ := hbody A outer s H vs Q E (hr.deeper _) hsp
 have I : Inv (cxOf CX P w K mg base N qual scope f cdv A outer s H E) [] (start N vs) H s1 := zc5 S hr.hd e0 hl r x
 refine wpAny_mono (ht [] s1 (start N vs) H _ I hq) (fun fl s' hs => ?_) fun e s' hs => hs
 have fin : ∀ {σ' : St} {H' : Hp} {v : V} {u : Value}, Inv (cxOf CX P w K mg base N qual scope f cdv A outer s H E) [] σ' H' s' -> RelV v u -> Q v H' -> CE outer P w H s Q u s' :=
  fun {σ' H' v u} J rv q => ⟨v, H', J.os, J.bare, J.base, J.hok, rv, q⟩
 cases fl with
 | ret u =>
  obtain ⟨v, σ', H', J, rv, q⟩ := hs
  exact fin J rv q
 | next =>
  obtain ⟨σ', H', J, q⟩ := hs
  exact fin (v := V.non) (u := Value.none) J rfl q
 | brk =>
  obtain ⟨_, _, _, q⟩ := hs
  exact False.elim q
 | cont =>
  obtain ⟨_, _, _, q⟩ := hs
  exact False.elim q
section
variable {X : Cx} {x : Str} {p pos : Pos} {e : Expr} {es : List Expr} {t : TA} {id T : String} {r : List V -> Hp -> VK -> Prop}
def tCB (r : List V -> Hp -> VK -> Prop) (t : TA) : TE := fun σ H Q => t σ H fun vs H1 => r vs H1 Q
theorem xb2 (hc : xi1 X (.builtin id) r) (hg : Gl X x) (hm : X.mg x = none) (hv : bootBuiltins x = some (.builtin id)) (ha : PA X (e :: es) t) (hn : x ≠ "__name__" := by decide) (hdb : (x == ("__debug__" : Str)) = false := by decide)
  (he : starEach (e :: es) X.env = (false, eval e X.env) :: starEach es X.env := by rfl) (hpl : (backTo pos (starEach es X.env)).any (·.1) = false := by rfl) : PE X (.Call (.Name x p) (e :: es) [] pos) (tCB r t) := by
 intro pins s σ H Q I h
 refine wpAny_Call_Name_kw (yc0 I hg hm hv ?_ hn hdb)
 exact PyProof.Rows.callWith_builtin1 (thn (ha pos pins s σ H _ I h) fun us s1 ⟨vs, H1, I1, r1, q1⟩ => hc pins s1 σ H1 vs us Q I1 r1 q1) he hpl
theorem xf4 (hc : xi1 X (.type T) r) (hg : Gl X x) (hm : X.mg x = none) (hv : bootBuiltins x = some (.type T)) (ha : PA X (e :: es) t) (hn : x ≠ "__name__" := by decide) (hdb : (x == ("__debug__" : Str)) = false := by decide)
  (he : starEach (e :: es) X.env = (false, eval e X.env) :: starEach es X.env := by rfl) (hpl : (backTo pos (starEach es X.env)).any (·.1) = false := by rfl) : PE X (.Call (.Name x p) (e :: es) [] pos) (tCB r t) := by
 intro pins s σ H Q I h
 refine wpAny_Call_Name_kw (yc0 I hg hm hv ?_ hn hdb)
 exact PyProof.Rows.callWith_type1 (thn (ha pos pins s σ H _ I h) fun us s1 ⟨vs, H1, I1, r1, q1⟩ => hc pins s1 σ H1 vs us Q I1 r1 q1) he hpl
end
end L2
namespace HT
open PySem PyProof.Rows
section
open PySem.SeqAt
open PySem.AutoSeq1 (wpAny_loadPart')
open PySem.MeetsSeq PySem.MeetsSeq2 PySem.MeetsSeq3
end
section
variable {prog : Program} {w : World} {A : Around} {E : Value -> Shared -> Prop} {s : Shared}
end
end HT
namespace L2
open PySem PySem.Spec PyProof.Rows
abbrev TO := St -> Hp -> (Option Int -> Hp -> Prop) -> Prop
def PO (X : Cx) (e : Option Expr) (t : TO) : Prop :=
 ∀ (pins : List (Addr × Obj)) (s : Shared) (σ : St) (H : Hp) (Q : Option Int -> Hp -> Prop), Inv X pins σ H s -> t σ H Q ->
  wpAny (model X.prog X.w) X.A (evalPart e X.env) (fun u s' => ∃ o H', Inv X pins σ H' s' /\ IsPart u o /\ Q o H') X.xe s
def tNoPart : TO := fun _ H Q => Q none H
def tPart (t : TE) : TO := fun σ H Q => t σ H fun x H1 => ∃ i, x = .int i /\ Q (some i) H1
section
variable {X : Cx} {e : Expr} {te : TE} {lo hi : Option Expr} {tl th : TO} {pos p2 : Pos}
theorem ym7 : PO X none tNoPart := by
 intro pins s σ H Q I h
 rw [evalPart_none]
 exact wpAny_pure ⟨none, H, I, .none, h⟩
theorem ym6 (h : PE X e te) : PO X (some e) (tPart te) := by
 intro pins s σ H Q I hw
 rw [evalPart_some]
 refine thn (h pins s σ H _ I hw) fun u s1 ⟨x, H1, I1, r1, q1⟩ => ?_
 obtain ⟨i, rfl, q⟩ := q1
 obtain ⟨t, rfl⟩ := r1
 exact ⟨some i, H1, I1, .int i t, q⟩
def SlR (X : Cx) (r : V -> Option Int -> Option Int -> Hp -> VK -> Prop) : Prop :=
 ∀ (pins : List (Addr × Obj)) (s : Shared) (σ : St) (H : Hp) (x : V) (v vl vu : Value) (lo hi : Option Int) (sl : Addr) (Q : VK), Inv X pins σ H s -> RelV x v -> s.heap.IsSliceOf sl vl vu .none -> IsPart vl lo -> IsPart vu hi -> r x lo hi H Q ->
  ∃ T id, typeLookup (.type T) "__getitem__" = pure (some (.builtin id)) /\ s.TypeIs v T /\ wpAny (model X.prog X.w) X.A (getItem v (.ref sl)) (EP X pins σ Q) X.xe s
def tSl (r : V -> Option Int -> Option Int -> Hp -> VK -> Prop) (te : TE) (tl th : TO) : TE := fun σ H Q => te σ H fun x H1 => tl σ H1 fun l H2 => th σ H2 fun u H3 => r x l u H3 Q
theorem ye0 {r : V -> Option Int -> Option Int -> Hp -> VK -> Prop} (hr : SlR X r) (he : PE X e te) (hl : PO X lo tl) (hu : PO X hi th) : PE X (.Subscript e (.Slice lo hi none p2) pos) (tSl r te tl th) := by
 intro pins s σ H Q I h
 refine Subscript_ (thn (he pins s σ H _ I h) fun v s1 ⟨x, H1, I1, r1, q1⟩ => ?_)
 refine wpAny_Slice (thn (hl pins s1 σ H1 _ I1 q1) fun vl s2 ⟨l, H2, I2, pl, q2⟩ => thn (hu pins s2 σ H2 _ I2 q2) fun vu s3 ⟨u, H3, I3, pu, q3⟩ => ?_)
 rw [evalPart_none]
 refine wpAny_pure ?_
 have I4 : Inv X pins σ H3 { s3 with heap := s3.heap.push { cls := .type "slice", data := .fields #[vl, vu, .none] } } := I3.kept (t' := s3.toks) fun b ob q => Heap.get?_push_of_some _ q
 obtain ⟨T, id, hT, ht, hg⟩ := hr pins { s3 with heap := s3.heap.push { cls := .type "slice", data := .fields #[vl, vu, .none] } } σ H3 x v vl vu l u s3.heap.objs.size Q I4 r1 (Heap.IsSliceOf.new ..) pl pu q3
 show wpAny (model X.prog X.w) X.A (subscriptTail e (.Slice lo hi none p2) v (.ref s3.heap.objs.size)) (EP X pins σ Q) X.xe { s3 with heap := s3.heap.push { cls := .type "slice", data := .fields #[vl, vu, .none] } }
 exact tail_any (ops := [.ref s3.heap.objs.size, v]) ht hT hg (by with_unfolding_all rfl)
end
def ixN (n : Nat) (i : Int) : Option Nat := if 0 <= i then (if i < n then some i.toNat else none) else if -(n : Int) <= i then some (i + n).toNat else none
def atI {α : Type} (xs : List α) (i : Int) : Option α := (ixN xs.length i).bind fun j => xs[j]?
theorem ixN_seq {n : Nat} {i : Int} {j : Nat} (h : ixN n i = some j) : seqIndex? i n = some j /\ j < n /\ -(n : Int) <= i /\ i < n := by
 unfold ixN at h
 by_cases h0 : 0 <= i
 ·rw [if_pos h0] at h
  by_cases h1 : i < n
  ·rw [if_pos h1] at h
   have e : i.toNat = j := Option.some.inj h
   exact ⟨by rw [seqIndex_of h0 h1, e], by omega, by omega, h1⟩
  ·rw [if_neg h1] at h; cases h
 ·rw [if_neg h0] at h
  by_cases h1 : -(n : Int) <= i
  ·rw [if_pos h1] at h
   have e : (i + n).toNat = j := Option.some.inj h
   exact ⟨by rw [seqIndex_neg (by omega) h1, e], by omega, h1, by omega⟩
  ·rw [if_neg h1] at h; cases h
theorem yo4 {α : Type} {xs : List α} {i : Int} {v : α} (h : atI xs i = some v) : ∃ j, seqIndex? i xs.length = some j /\ xs[j]? = some v /\ j < xs.length /\ -(xs.length : Int) <= i /\ i < xs.length := by
 unfold atI at h
 cases e : ixN xs.length i with
 | none => rw [e] at h; cases h
 | some j =>
  rw [e] at h
  obtain ⟨h1, h2, h3, h4⟩ := ixN_seq e
  exact ⟨j, h1, h, h2, h3, h4⟩
theorem xf0 {α : Type} {xs : List α} {j : Nat} {v : α} (h : xs[j]? = some v) : atI xs (j : Int) = some v := by
 have hj : j < xs.length := (List.getElem?_eq_some_iff.mp h).1
 have e : ixN xs.length (j : Int) = some j := by
  unfold ixN
  rw [if_pos (by omega), if_pos (by omega)]; simp
 unfold atI; rw [e]; exact h
def PlainIx (b : Expr) : Prop := ∀ o i, subscripted b false o i = operate [o, i] (getItem o i)
def IxR (X : Cx) (r : R2) : Prop :=
 ∀ (value slice : Expr) (pins : List (Addr × Obj)) (s : Shared) (σ : St) (H : Hp) (x y : V) (v u : Value) (Q : VK), Inv X pins σ H s -> RelV x v -> RelV y u -> r x y H Q ->
  subscripted slice false v u = operate [v, u] (getItem v u) -> wpAny (model X.prog X.w) X.A (subscriptTail value slice v u) (EP X pins σ Q) X.xe s
def MtR (X : Cx) (id : String) (r : V -> List V -> Hp -> VK -> Prop) : Prop :=
 ∀ (pins : List (Addr × Obj)) (s : Shared) (σ : St) (H : Hp) (x : V) (xs : List V) (v : Value) (us : List Value) (Q : VK), Inv X pins σ H s -> RelV x v -> Vals xs us -> r x xs H Q ->
  wpAny (model X.prog X.w) X.A (call (.builtin id) (v :: us)) (EP X pins σ Q) X.xe s
section
variable {X : Cx} {a b : Expr} {ta tb : TE} {pos : Pos}
theorem xj4 {r : R2} (hr : IxR X r) (ha : PE X a ta) (hb : PE X b tb) (hs : PlainIx b) : PE X (.Subscript a b pos) (tOp r ta tb) := by
 intro pins s σ H Q I h
 exact Subscript_ (binT ha hb I h fun v u s2 x y H2 I2 rx ry q => hr a b pins s2 σ H2 x y v u Q I2 rx ry q (hs _ _))
def rIxL (K : Frag) : R2 := fun x y H Q => ∃ p xs i v, x = .ref p /\ y = .int i /\ SqL K H p xs /\ atI xs i = some v /\ Q v H
def rIxT (K : Frag) : R2 := fun x y H Q => ∃ p xs i v, x = .ref p /\ y = .int i /\ SqT K H p xs /\ atI xs i = some v /\ Q v H
def rIxS : R2 := fun x y H Q => ∃ z i c, x = .str z /\ y = .int i /\ z.length <= sizeLine /\ atI z.cps.toList i = some c /\ Q (.str ⟨#[c]⟩) H
theorem zc0 : IxR X (rIxL X.K) := by
 intro value slice pins s σ H x y v u Q I rx ry h hs
 obtain ⟨p, xs, i, z, rfl, rfl, hq, he, q⟩ := h
 cases rx
 obtain ⟨t, rfl⟩ := ry
 obtain ⟨its, r, pl, hz⟩ := I.list hq
 obtain ⟨j, h1, h2, h3, h4, h5⟩ := yo4 he
 obtain ⟨w, ew, rw'⟩ := r.get h2
 have hl := r.length
 have hn := yj4
 have fin : EP X pins σ Q w s := ⟨z, H, I, rw', q⟩
 by_cases h0 : 0 <= i
 ·have hj : i.toNat = j := by
   rw [seqIndex_of h0 h5] at h1
   exact Option.some.inj h1
  exact item_listR pl.isList h0 (by omega) (by rw [hj]; simpa using ew) fin hs
 ·have hj : (i + (its.toArray.size : Int)).toNat = j := by
   rw [seqIndex_neg (by omega) h4] at h1
   rw [List.size_toArray, <- hl]
   exact Option.some.inj h1
  exact subscriptTail_builtinR (x := w) pl.isList.typeIs slot_list_getitem.lookup
   (wpAny_getItem_list_neg (Q := fun r s' => r = w /\ EP X pins σ Q r s') pl.isList (by omega) (by rw [List.size_toArray] <;> omega) (by omega) (by rw [hj]; simpa using ew) ⟨rfl, fin⟩) hs
theorem ix_tup : IxR X (rIxT X.K) := by
 intro value slice pins s σ H x y v u Q I rx ry h hs
 obtain ⟨p, xs, i, z, rfl, rfl, hq, he, q⟩ := h
 cases rx
 obtain ⟨t, rfl⟩ := ry
 obtain ⟨its, r, pl, hz⟩ := I.tuple hq
 obtain ⟨j, h1, h2, h3, h4, h5⟩ := yo4 he
 obtain ⟨w, ew, rw'⟩ := r.get h2
 have hl := r.length
 have hn := yj4
 have fin : EP X pins σ Q w s := ⟨z, H, I, rw', q⟩
 exact subscriptTail_builtinR (x := w) pl.typeIs slot_tuple_getitem.lookup
  (getItem_tuple (j := j) (Q := fun r s' => r = w /\ EP X pins σ Q r s') pl (by omega) (by omega) (by rw [List.size_toArray, <- hl]; exact h1) (by simpa using ew) ⟨rfl, fin⟩) hs
theorem ix_str : IxR X rIxS := by
 intro value slice pins s σ H x y v u Q I rx ry h hs
 obtain ⟨z, i, c, rfl, rfl, hz, he, q⟩ := h
 obtain ⟨t, rfl⟩ := rx
 obtain ⟨t', rfl⟩ := ry
 obtain ⟨j, h1, h2, h3, h4, h5⟩ := yo4 he
 have hl : z.cps.toList.length = z.length := by simp [Str.length]
 rw [hl] at h1 h4 h5
 have hn := yj4
 exact tail_any (typeIs_str s z t) slot_str_getitem.lookup (getItem_str (c := c) (by
  have e1 : decide (i < -(2 ^ 63 : Int)) = false := decide_eq_false (by omega)
  have e2 : decide (i >= 2 ^ 63) = false := decide_eq_false (by omega)
  rw [e1, e2, Bool.or_false]) (by rw [h1]; simpa using h2) ⟨.str ⟨#[c]⟩, H, I.tok _, ⟨_, rfl⟩, q⟩) hs
theorem Inv.lst {pins : List (Addr × Obj)} {σ : St} {H : Hp} {s : Shared} {p : Addr} {xs : List V} (I : Inv X pins σ H s) (h : H p = some (.lst xs)) :
  ∃ (its : List Value) (n : Nat), Vals xs its /\ s.heap.get? p = some { cls := .type "list", data := .seq its.toArray n } /\ xs.length <= sizeLine := by
 obtain ⟨z, its, n, r, e⟩ := I.hok p _ h
 exact ⟨its, n, r, e, z⟩
def yk0 : V -> Bool
 | .non => true
 | .bl _ => true
 | .int _ => true
 | .str _ => true
 | _ => false
def eqV : V -> V -> Bool
 | .non, .non => true
 | .bl a, .bl b => a == b
 | .bl a, .int b => (if a then 1 else 0) == b
 | .int a, .bl b => a == (if b then 1 else 0)
 | .int a, .int b => a == b
 | .str a, .str b => a == b
 | _, _ => false
theorem eqAt_V {A : Around} {s : Shared} {y x : V} {u v : Value} (ry : RelV y u) (rx : RelV x v) (fy : yk0 y = true) (fx : yk0 x = true) : SeqAt.EqAt A s u v (eqV y x) := by
 cases y with
 | non =>
  cases ry
  cases x with
  | non => cases rx; exact SeqAt.EqAt.same _
  | bl b => cases rx; exact SeqAt.EqAt.none_bool b
  | int b => obtain ⟨t, rfl⟩ := rx; exact SeqAt.EqAt.none_int b t
  | str b => obtain ⟨t, rfl⟩ := rx; exact SeqAt.EqAt.none_str b t
  | _ => exact absurd (show false = true from fx) Bool.false_ne_true
 | bl a =>
  cases ry
  cases x with
  | non => cases rx; exact SeqAt.EqAt.bool_none a
  | bl b => cases rx; exact SeqAt.EqAt.bool_bool a b
  | int b => obtain ⟨t, rfl⟩ := rx; exact SeqAt.EqAt.bool_int a b t
  | str b => obtain ⟨t, rfl⟩ := rx; exact SeqAt.EqAt.bool_str a b t
  | _ => exact absurd (show false = true from fx) Bool.false_ne_true
 | int a =>
  obtain ⟨t', rfl⟩ := ry
  cases x with
  | non => cases rx; exact SeqAt.EqAt.int_none a t'
  | bl b => cases rx; exact SeqAt.EqAt.int_bool a t' b
  | int b => obtain ⟨t, rfl⟩ := rx; exact SeqAt.EqAt.int_int a t' b t
  | str b => obtain ⟨t, rfl⟩ := rx; exact SeqAt.EqAt.int_str a t' b t
  | _ => exact absurd (show false = true from fx) Bool.false_ne_true
 | str a =>
  obtain ⟨t', rfl⟩ := ry
  cases x with
  | non => cases rx; exact SeqAt.EqAt.str_none a t'
  | bl b => cases rx; exact SeqAt.EqAt.str_bool a t' b
  | int b => obtain ⟨t, rfl⟩ := rx; exact SeqAt.EqAt.str_int a t' b t
  | str b => obtain ⟨t, rfl⟩ := rx; exact SeqAt.EqAt.str_str a t' b t
  | _ => exact absurd (show false = true from fx) Bool.false_ne_true
 | _ => exact absurd (show false = true from fy) Bool.false_ne_true
def eqU (x : V) (u : Value) : Bool := match u with
 | .none => eqV .non x
 | .bool b => eqV (.bl b) x
 | .int i _ => eqV (.int i) x
 | .str z _ => eqV (.str z) x
 | _ => false
theorem eqU_of {x y : V} {u : Value} (r : RelV y u) (f : yk0 y = true) : eqU x u = eqV y x := by
 cases y with
 | non => cases r; rfl
 | bl b => cases r; rfl
 | int i => obtain ⟨t, rfl⟩ := r; rfl
 | str z => obtain ⟨t, rfl⟩ := r; rfl
 | _ => exact absurd (show false = true from f) Bool.false_ne_true
theorem yo5 {x : V} : ∀ {xs : List V} {us : List Value}, Vals xs us -> xs.all yk0 = true -> us.any (eqU x) = xs.any fun y => eqV y x
 | _, _, .nil, _ => rfl
 | y :: xs, u :: us, .cons r t, f => by
  rw [List.all_cons, Bool.and_eq_true] at f
  rw [List.any_cons, List.any_cons, eqU_of r f.1, yo5 t f.2]
theorem ye8 {A : Around} {s : Shared} {x : V} {v : Value} (rx : RelV x v) (fx : yk0 x = true) : ∀ {xs : List V} {us : List Value}, Vals xs us -> xs.all yk0 = true -> ∀ u ∈ us, SeqAt.EqAt A s u v (eqU x u)
 | _, _, .nil, _ => fun u hu => by cases hu
 | y :: xs, u :: us, .cons r t, f => fun u' hu => by
  rw [List.all_cons, Bool.and_eq_true] at f
  rcases List.mem_cons.mp hu with rfl | hu
  ·rw [eqU_of r f.1]; exact eqAt_V r rx f.1 fx
  ·exact ye8 rx fx t f.2 u' hu
def inV (x : V) (xs : List V) : Bool := xs.any fun y => eqV y x
def rIn (K : Frag) (neg : Bool) : R2 := fun x y H Q => ∃ p xs, y = .ref p /\ (SqL K H p xs \/ SqT K H p xs) /\ yk0 x = true /\ xs.all yk0 = true /\ Q (.bl (if neg then !inV x xs else inV x xs)) H
theorem za8 : OpR X (compareOp .In) (rIn X.K false) := by
 intro pins s σ H x y v u Q I rx ry h
 obtain ⟨p, xs, rfl, hq, fx, fs, q⟩ := h
 cases ry
 rcases hq with hq | hq
 ·obtain ⟨its, r, pl, hz⟩ := I.list hq
  refine SeqAt.in_listAt (eqU x) pl.isList (fun w hw => ye8 rx fx r fs w (by simpa using hw)) ⟨.bl _, H, I, rfl, ?_⟩
  rw [show its.toArray.any (eqU x) = its.any (eqU x) by simp, yo5 r fs]
  exact q
 ·obtain ⟨its, r, pl, hz⟩ := I.tuple hq
  refine SeqAt.in_tupleAt (eqU x) pl (fun w hw => ye8 rx fx r fs w (by simpa using hw)) ⟨.bl _, H, I, rfl, ?_⟩
  rw [show its.toArray.any (eqU x) = its.any (eqU x) by simp, yo5 r fs]
  exact q
theorem yl0 : xi1 X (.builtin "len") (fun xs H Q => ∃ p ys, xs = [.ref p] /\ (SqL X.K H p ys \/ SqT X.K H p ys) /\ Q (.int ys.length) H) := by
 intro pins s σ H xs us Q I r h
 obtain ⟨p, ys, rfl, hq, q⟩ := h
 obtain ⟨u, rfl, rx⟩ := xq0 r
 cases rx
 have hn := yj4
 rcases hq with hq | hq
 ·obtain ⟨its, r', pl, hz⟩ := I.list hq
  have hlen := r'.length
  exact Calls.call_len_list pl.isList (by simp only [List.size_toArray] <;> omega) ⟨.int ys.length, H, I.tok _, ⟨s.toks + 1, by rw [List.size_toArray, hlen]⟩, q⟩
 ·obtain ⟨its, r', pl, hz⟩ := I.tuple hq
  have hlen := r'.length
  exact len_tuple pl (by simp only [List.size_toArray] <;> omega) ⟨.int ys.length, H, I.tok _, ⟨s.toks + 1, by rw [List.size_toArray, hlen]⟩, q⟩
theorem yk9 : xi1 X (.builtin "len") (fun xs H Q => ∃ z, xs = [.str z] /\ z.length <= sizeLine /\ Q (.int z.length) H) := by
 intro pins s σ H xs us Q I r h
 obtain ⟨z, rfl, hz, q⟩ := h
 obtain ⟨u, rfl, t, rfl⟩ := xq0 r
 have hn := yj4
 exact len_str (by omega) ⟨.int z.length, H, I.tok _, ⟨_, rfl⟩, q⟩
theorem yk8 : xi1 X (.type "list") (fun xs H Q => ∃ p ys, xs = [.ref p] /\ (SqL X.K H p ys \/ SqT X.K H p ys) /\ ∀ l, H l = none -> Q (.ref l) (upd H l (.lst ys))) := by
 intro pins s σ H xs us Q I r h
 obtain ⟨p, ys, rfl, hq, q⟩ := h
 obtain ⟨u, rfl, rx⟩ := xq0 r
 cases rx
 have fin : ∀ (its : List Value), Vals ys its -> ys.length <= sizeLine -> ∀ (h' : Heap) (c' : Nat), (∀ b o', s.heap.get? b = some o' -> h'.get? b = some o') ->
   h'.get? s.heap.objs.size = some { cls := .type "list", dict := none, data := .seq its.toArray c', slots := #[] } -> EP X pins σ Q (.ref s.heap.objs.size) { s with heap := h' } := fun its r' hz h' c' kp e =>
  ⟨.ref s.heap.objs.size, _, I.laid (t' := s.toks) kp (Nat.le_refl _) (show xd4 X.prog X.w _ h' _ (.lst ys) from ⟨hz, its, c', r', e⟩), rfl, q _ (I.hok.fresh (Nat.le_refl _))⟩
 rcases hq with hq | hq
 ·obtain ⟨its, r', pl, hz⟩ := I.list hq
  have hlen := r'.length
  obtain ⟨o, ho, hc, n, hd⟩ := pl.isList
  exact call_list_seq p (.inl rfl) ho hc hd (fun h' c' kp e => fin its r' hz h' c' kp e) (by simp only [List.size_toArray] <;> omega)
 ·obtain ⟨its, r', pl, hz⟩ := I.tuple hq
  have hlen := r'.length
  obtain ⟨o, ho, hc, n, hd⟩ := pl
  exact call_list_seq p (.inr rfl) ho hc hd (fun h' c' kp e => fin its r' hz h' c' kp e) (by simp only [List.size_toArray] <;> omega)
theorem yf6 : xi1 X (.type "tuple") (fun xs H Q => ∃ p ys, xs = [.ref p] /\ ((SqL X.K H p ys /\ ∀ l, H l = none -> Q (.ref l) (upd H l (.tup ys))) \/ (SqT X.K H p ys /\ Q (.ref p) H))) := by
 intro pins s σ H xs us Q I r h
 obtain ⟨p, ys, rfl, h⟩ := h
 obtain ⟨u, rfl, rx⟩ := xq0 r
 cases rx
 rcases h with ⟨hq, q⟩ | ⟨hq, q⟩
 ·obtain ⟨its, r', pl, hz⟩ := I.list hq
  have hlen := r'.length
  refine call_tuple_list pl.isList (fun h' kp => ?_) (by simp only [List.size_toArray] <;> omega)
  have I1 : Inv X pins σ H { s with heap := h' } := I.kept (t' := s.toks) kp
  have I2 : Inv X pins σ (upd H h'.objs.size (.tup ys)) { s with heap := h'.push { cls := .type "tuple", data := .seq its.toArray } } :=
   I1.laid (t' := s.toks) (fun b o e => Heap.get?_push_of_some _ e) (Nat.le_refl _) (show xd4 X.prog X.w _ _ _ (.tup ys) from ⟨hz, its, r', IsTup.new _ _⟩)
  exact ⟨.ref h'.objs.size, _, I2, rfl, q _ (I1.hok.fresh (Nat.le_refl _))⟩
 ·obtain ⟨its, r', pl, hz⟩ := I.tuple hq
  exact call_tuple_same pl ⟨.ref p, H, I, rfl, q⟩
def tyV (K : Frag) (T : String) (x : V) (H : Hp) : Prop := match x with
 | .str _ => T = "str"
 | .int _ => T = "int"
 | .ref p => (T = "list" /\ ∃ xs, SqL K H p xs) \/ (T = "tuple" /\ ∃ o, K.lookup p = some o /\ o.cls = .type "tuple" /\ o.dict = none) \/
   (T = "dict" /\ ((∃ kvs, H p = some (.dK kvs)) \/ ∃ kvs, H p = some (.dT kvs))) \/ (T = "set" /\ ∃ S n, H p = some (.set S n))
 | _ => False
theorem tyV_is {pins : List (Addr × Obj)} {σ : St} {H : Hp} {s : Shared} {T : String} {x : V} {v : Value} (I : Inv X pins σ H s) (r : RelV x v) (ty : tyV X.K T x H) :
  s.TypeIs v T /\ ∀ a, v = .ref a -> ∃ ob, s.heap.get? a = some ob /\ ob.dict = none := by
 cases x with
 | str z =>
  obtain ⟨t, rfl⟩ := r
  cases (show T = "str" from ty)
  exact ⟨typeIs_str s z t, fun _ e => nomatch e⟩
 | int i =>
  obtain ⟨t, rfl⟩ := r
  cases (show T = "int" from ty)
  exact ⟨typeIs_int s i t, fun _ e => nomatch e⟩
 | ref p =>
  cases r
  rcases ty with ⟨rfl, xs, hq⟩ | ⟨rfl, o, hk, hc, hd⟩ | ⟨rfl, hk⟩ | ⟨rfl, S, n, hk⟩
  ·obtain ⟨its, _, pl, _⟩ := I.list hq
   refine ⟨pl.isList.typeIs, fun a e => ?_⟩
   cases e
   obtain ⟨o, n, e, c, hd, _⟩ := pl
   exact ⟨o, e, hd⟩
  ·refine ⟨⟨o, I.kIn p o hk, hc⟩, fun a e => ?_⟩
   cases e
   exact ⟨o, I.kIn _ o hk, hd⟩
  ·have z : ∃ o, s.heap.get? p = some o /\ o.ExactDict := by
    rcases hk with ⟨kvs, hk⟩ | ⟨kvs, hk⟩
    ·obtain ⟨_, _, _, _, o, _, _, e, ex, _⟩ := I.hok p _ hk
     exact ⟨o, e, ex⟩
    ·obtain ⟨_, _, _, _, o, _, _, e, ex, _⟩ := I.hok p _ hk
     exact ⟨o, e, ex⟩
   obtain ⟨o, e, ex⟩ := z
   refine ⟨⟨o, e, ex.1⟩, fun a e2 => ?_⟩
   cases e2
   exact ⟨o, e, ex.2.1⟩
  ·obtain ⟨o, _, _, _, e, ex, _⟩ := I.hok p _ hk
   refine ⟨⟨o, e, ex.1⟩, fun a e2 => ?_⟩
   cases e2
   exact ⟨o, e, ex.2.1⟩
 | _ => exact False.elim ty
def tBM (K : Frag) (T : String) (r : V -> List V -> Hp -> VK -> Prop) (to : TE) (t : TA) : TE := fun σ H Q => to σ H fun x H1 => tyV K T x H1 /\ t σ H1 fun xs H2 => r x xs H2 Q
variable {o e : Expr} {es : List Expr} {to : TE} {t : TA} {name : Str} {apos cpos : Pos} {T id : String} {r : V -> List V -> Hp -> VK -> Prop}
theorem pe_bm (pa : PlainAttrs T) (slot : Slot T name id) (hty : typeOf (.builtin id) = pure (.type "method_descriptor")) (hm : MtR X id r) (ho : PE X o to) (ha : PA X (e :: es) t)
  (hbase : attributeBase o name X.env (eval o X.env) = eval o X.env := by rfl)
  (hfew : ((backTo cpos (starEach (e :: es) X.env)).all (fun x => !x.1) && (backToKw cpos (keywordEach [] X.env)).all (fun x => x.1.isSome)
   && decide ((e :: es).length + ([] : List Keyword).length + (if ([] : List Keyword).isEmpty then 0 else 1) < 30)) = true := by rfl)
  (hline : (apos.endLine == cpos.line) = true := by rfl) (hs : starEach (e :: es) X.env = (false, eval e X.env) :: starEach es X.env := by rfl) (hplain : (backTo cpos (starEach es X.env)).any (·.1) = false := by rfl) :
  PE X (.Call (.Attribute o name apos) (e :: es) [] cpos) (tBM X.K T r to t) := by
 intro pins s σ H Q I h
 refine wpAny_Call_method_late hbase hfew hline rfl (thn (ho pins s σ H _ I h) fun v s1 ⟨x, H1, I1, r1, ty, q1⟩ => ?_)
 obtain ⟨h1, h2⟩ := tyV_is I1 r1 ty
 refine ⟨T, id, pa, slot, hty, h1, h2, ?_⟩
 have hA := ha cpos pins s1 σ H1 _ I1 q1
 rw [hs] at hA ⊢
 refine Calls.callWith_builtin (by show (false || (backTo cpos (starEach es X.env)).any (·.1)) = false; rw [hplain] <;> rfl) (Calls.evalArgs_plain ?_)
 exact thn hA fun us s2 ⟨vs, H2, I2, r2, q2⟩ => hm pins s2 σ H2 x vs v us Q I2 r1 r2 q2
end
def MtM (X : Cx) (id : String) (r : V -> List V -> Hp -> VK -> Prop) : Prop :=
 ∀ (pins : List (Addr × Obj)) (s : Shared) (σ : St) (H : Hp) (x : V) (xs : List V) (v : Value) (us : List Value) (Q : VK), Inv X pins σ H s -> RelV x v -> Vals xs us -> r x xs H Q ->
  wpAny (model X.prog X.w) X.A (call (.builtin id) (v :: us)) (EP X pins σ Q) X.xe s
theorem Vals.one : ∀ {x : V} {us : List Value}, Vals [x] us -> ∃ u, us = [u] /\ RelV x u
 | _, _, .cons r .nil => ⟨_, rfl, r⟩
theorem Vals.two : ∀ {x y : V} {us : List Value}, Vals [x, y] us -> ∃ u v, us = [u, v] /\ RelV x u /\ RelV y v
 | _, _, _, .cons r (.cons q .nil) => ⟨_, _, rfl, r, q⟩
theorem Vals.zero : ∀ {us : List Value}, Vals [] us -> us = []
 | _, .nil => rfl
theorem Vals.eraseIdx : ∀ {xs : List V} {us : List Value} (i : Nat), Vals xs us -> Vals (xs.eraseIdx i) (us.eraseIdx i)
 | _, _, _, .nil => .nil
 | _, _, 0, .cons _ t => t
 | _, _, i + 1, .cons r t => .cons r (Vals.eraseIdx i t)
section
variable {X : Cx} {pins : List (Addr × Obj)} {σ : St} {H : Hp} {s : Shared} {l b : Addr} {xs ys zs : List V}
theorem Inv.lset {its its' : List Value} {n : Nat} {f : Array Value -> Array Value} {t' : Nat} (I : Inv X pins σ H s) (hH : H l = some (.lst xs))
  (e : s.heap.get? l = some { cls := .type "list", data := .seq its.toArray n }) (hf : f its.toArray = its'.toArray) (hv : Vals ys its') (hz : ys.length <= sizeLine) :
  Inv X pins σ (upd H l (.lst ys)) { s with heap := s.heap.update l (Obj.mapSeq f), toks := t' } := by
 have q := PySem.IsL.update e f
 rw [hf] at q
 refine I.write (x := l) (e := l) (by rw [hH]; exact trivial) (.inl rfl) (fun b' u hb hu => (Heap.get?_update_other s.heap (Obj.mapSeq f) (Ne.symm hb)).trans hu) ⟨_, q⟩ ?_
 exact ⟨hz, its', _, hv, q⟩
theorem Inv.lnew {its : List Value} {t' : Nat} (I : Inv X pins σ H s) (hv : Vals ys its) (hz : ys.length <= sizeLine) :
  Inv X pins σ (upd H s.heap.objs.size (.lst ys)) { s with heap := s.heap.push { cls := .type "list", data := .seq its.toArray }, toks := t' } :=
 I.laid (fun _ _ q => Heap.get?_push_of_some _ q) (Nat.le_refl _) ⟨hz, its, 0, hv, Heap.get?_push_size _ rfl⟩
theorem Inv.fresh (I : Inv X pins σ H s) : H s.heap.objs.size = none := I.hok.fresh (Nat.le_refl _)
theorem Inv.lstM (I : Inv X pins σ H s) (hH : H l = some (.lst xs)) : xs.length <= sizeLine /\ ∃ (its : List Value) (n : Nat), Vals xs its /\ xs.length = its.length /\ s.heap.get? l = some { cls := .type "list", data := .seq its.toArray n } := by
 obtain ⟨z, its, n, r, e⟩ := I.hok l _ hH
 exact ⟨z, its, n, r, r.length, e⟩
theorem notLongL {n : Nat} (h : n <= sizeLine) : Builtin.List.listTooLong n = false := by
 unfold Builtin.List.listTooLong
 exact decide_eq_false (by omega)
end
section
variable {X : Cx}
def rAppend : V -> List V -> Hp -> VK -> Prop := fun x vs H Q => ∃ l xs y, x = .ref l /\ vs = [y] /\ H l = some (.lst xs) /\ xs.length < sizeLine /\ Q .non (upd H l (.lst (xs ++ [y])))
theorem xx1 : MtM X "list.append" rAppend := by
 intro pins s σ H x vs v us Q I rx rv h
 obtain ⟨l, xs, y, rfl, rfl, hH, hz, q⟩ := h
 cases rx
 obtain ⟨u, rfl, ru⟩ := rv.one
 obtain ⟨z, its, n, r, hl, e⟩ := I.lstM hH
 refine call_meets F.slot_list_append ⟨_, e, rfl⟩ F.entry_list_append (F.args_list_append_2 _ _) (PySem.list_append l its.toArray n u (by rw [List.size_toArray]; omega)) ⟨e, ?_⟩
 refine ⟨.non, _, I.lset (its' := its ++ [u]) hH e (by simp) (r.append (.cons ru .nil)) ?_, rfl, q⟩
 rw [List.length_append, List.length_singleton]
 omega
def rExtend : V -> List V -> Hp -> VK -> Prop := fun x vs H Q => ∃ l b xs zs, x = .ref l /\ vs = [.ref b] /\ H l = some (.lst xs) /\ H b = some (.lst zs) /\ xs.length + zs.length <= sizeLine /\ Q .non (upd H l (.lst (xs ++ zs)))
theorem xx0 : MtM X "list.extend" rExtend := by
 intro pins s σ H x vs v us Q I rx rv h
 obtain ⟨l, b, xs, zs, rfl, rfl, hH, hB, hz, q⟩ := h
 cases rx
 obtain ⟨u, rfl, ru⟩ := rv.one
 cases ru
 obtain ⟨z, its, n, r, hl, e⟩ := I.lstM hH
 obtain ⟨z2, its2, n2, r2, hl2, e2⟩ := I.lstM hB
 have hsz : its.toArray.size + its2.toArray.size <= sizeLine := by rw [List.size_toArray, List.size_toArray]; omega
 have hlong : ¬ (!its.toArray.isEmpty && Builtin.List.listTooLong (its.toArray.size + its2.toArray.size)) = true := by
  rw [notLongL hsz, Bool.and_false]
  exact Bool.false_ne_true
 refine call_meets F.slot_list_extend ⟨_, e, rfl⟩ F.entry_list_extend (F.args_list_extend_2 _ _)
  (AutoSeq1.list_extend_list_list_0 l its.toArray n b its2.toArray n2 hlong (by rw [List.size_toArray]; omega) (by omega)) ⟨e, e2, ?_⟩
 refine ⟨.non, _, I.lset (its' := its ++ its2) hH e (by simp) (r.append r2) ?_, rfl, q⟩
 rw [List.length_append]
 omega
def rCat : R2 := fun x y H Q => ∃ l b xs zs, x = .ref l /\ y = .ref b /\ H l = some (.lst xs) /\ H b = some (.lst zs) /\ xs.length + zs.length <= sizeLine /\ ∀ p, H p = none -> Q (.ref p) (upd H p (.lst (xs ++ zs)))
theorem zb0 : OpR X (binaryOp .Add) rCat := by
 intro pins s σ H x y v u Q I rx ry h
 obtain ⟨l, b, xs, zs, rfl, rfl, hH, hB, hz, q⟩ := h
 cases rx
 cases ry
 obtain ⟨z, its, n, r, hl, e⟩ := I.lstM hH
 obtain ⟨z2, its2, n2, r2, hl2, e2⟩ := I.lstM hB
 refine PySem.P.add_list e e2 ?_ (by rw [List.size_toArray, List.size_toArray]; omega)
 have ea : its.toArray ++ its2.toArray = (its ++ its2).toArray := by simp
 rw [ea]
 exact ⟨.ref _, _, I.lnew (t' := s.toks) (r.append r2) (by rw [List.length_append]; omega), rfl, q _ I.fresh⟩
end
section
variable {prog : Program} {w : World} {A : Around} {E : Value -> Shared -> Prop} {s : Shared}
end
section
variable {X : Cx}
end
end L2
namespace Att
open PySem PySem.W PySem.Calls PyProof.Rows
theorem xx8 {P : Params} {h : Heap} : ∀ (ns : List Int) (vs : List Value), WellAll P h vs (ns.map WData.int) -> IntsAre vs ns := by
 intro ns
 induction ns with
 | nil =>
  intro vs w
  rw [List.map_nil] at w
  cases w
  exact .nil
 | cons n ns ih =>
  intro vs w
  rw [List.map_cons] at w
  cases w with
  | cons a b =>
   cases a
   exact .cons _ _ (ih _ b)
theorem yy6 {l : OpenLaw} {n : Nat} (hn : l.most = some n) {P : Params} {h : Heap} {args : List WData} {vals : List Value}
  (hpre : l.row.toRowW.claim.pre args = true) (hwl : WellAll P h vals args) :
  ∃ a vs ns, vals = [Value.ref a] /\ args = [WData.list (ns.map WData.int)] /\ h.get? a = some { cls := .type "list", data := .seq vs.toArray } /\ IntsAre vs ns /\ ns.length <= n := by
 have hsh : WShape.hasAll [] args [.list .int] = true := (pre_splitW hpre).1
 have hc : l.pre.holds [] { args := args } = true := (pre_splitW hpre).2
 obtain ⟨d, r, rfl, h1, h2⟩ := hasAllW_cons hsh
 obtain rfl := hasAllW_nil h2
 obtain ⟨xs, rfl, h3⟩ := hasW_list h1
 obtain ⟨ns, rfl⟩ := items_int h3
 have hlen : ns.length <= n := by
  unfold OpenLaw.pre at hc
  have h4 : (WTm.not (.lt (.lit (.int (n : Int))) (.len (.arg 0)))).holds [] { args := [.list (ns.map .int)] } = true := by
   have h4 := (holds_andW hc).1
   rw [hn] at h4
   exact h4
  have h5 := condW_of h4 (w_not (w_lt w_lit (w_len_list (w_arg rfl))))
  rw [List.length_map] at h5
  refine Nat.le_of_not_lt fun q => ?_
  have q' : (n : Int) < ((ns.length : Nat) : Int) := by omega
  first
   | (rw [decide_eq_true q'] at h5; exact absurd h5 (by decide))
   | (simp at h5; omega)
 cases hwl with
 | cons w1 w2 =>
  cases w2
  cases w1 with
  | list ho hall => exact ⟨_, _, ns, rfl, rfl, ho, xx8 ns _ hall, hlen⟩
theorem yz3 (l : OpenLaw) (args : List WData) : l.row.toRowW.claim.post args (.bool true) args = true :=
 postW_of (r := l.row.toRowW) (X := (true == true))
  (show WShape.has [] (.bool true) .bool = true by first | rfl | decide | simp [WShape.has, WShape.arms, WShape.armsAll])
  (show (WTm.eq .res (.lit (.bool true))).value [] { args := args, res := some (.bool true), after := args } = some (.bool (true == true)) from w_eq_bool (w_res rfl) w_lit) rfl
theorem attach_call {l : OpenLaw} {n : Nat} {q : Program} {loose : List Str} {XP : (Str -> Option Value) -> Heap -> Prop} {YP : World -> Heap -> Prop} {d : DefRec}
  (hn : l.most = some n) (hdf : d.params.defaults = [])
  (call : ∀ (w : World) (s₀ s₁ : Shared) (mg mb : Str -> Option Value) (fa : Addr) (o : Obj) (pm cd doc : Value) (a : Addr) (vs : List Value) (ns : List Int),
   Ground q loose [] XP w s₀ mg mb s₁.heap -> YP w s₁.heap ->
   s₁.heap.get? fa = some o -> o.data = .func (docDef d.name d.params d.body d.scope pm cd doc) -> s₁.heap.CodeRec cd d.name -> mg d.name = some (.ref fa) ->
   s₁.heap.get? a = some { cls := .type "list", data := .seq vs.toArray } -> IntsAre vs ns -> ns.length <= n -> s₁.gens = #[] ->
   codeAny (model l.prog w) callerA (.call (.ref fa) ⟨[.ref a], []⟩) (fun r s' => r = .ok (.ret (.bool true)) /\ OldK s₁.heap s'.heap /\ s'.os = s₁.os /\ AllBare s'.gens) s₁) :
  WalkO q loose XP YP l.row.toRowW d [] (fun f vs => PySem.call f vs) := by
 intro w s₀ s₁ mg mb G Y fa o pm cd doc dV kV ho hd hcd hD hmg hg args vals as hpre hlay hrd hwl hlo
 obtain rfl : dV = .none := Dflts.none hD hdf
 obtain rfl : kV = .none := Dflts.noKw hD
 obtain ⟨a, vs, ns, rfl, rfl, hobj, hints, hlen⟩ := yy6 hn hpre hwl
 refine enter_call (codeAny_mono (call w s₀ s₁ mg mb fa o pm cd doc a vs ns G Y ho (fd_plain hd) hcd hmg hobj hints hlen hg) fun r s' hq => ?_)
 obtain ⟨rfl, h2, h3, h4⟩ := hq
 exact ⟨.inl ⟨.bool true, .bool true, [], rfl, fun _ => rfl, .bool true, yz3 l _, fun _ => ⟨List.Pairwise.nil, fun _ hm => (nomatch hm)⟩⟩, h2, h3, h4⟩
section
variable {prog : Program} {w : World} {A : Around} {E : Value -> Shared -> Prop} {s : Shared} {K : Frag}
end
end Att
namespace L2
open PySem PySem.Spec PyProof.Rows
theorem yg7 : ∀ {vs : List Value} {ns : List Int}, IntsAre vs ns -> Vals (ns.map V.int) vs
 | _, _, .nil => .nil
 | _, _, .cons n t h => .cons ⟨t, rfl⟩ (yg7 h)
def Only (H : Hp) : Prop := ∀ b, H b = none \/ ∃ o xs, H b = some (.frz o (.lst xs))
theorem law_call {P : Program} {w : World} {K : Frag} {mg mb : Str -> Option Value} {CX : CXT} {k : Nat} {fa a : Addr} {fd : FuncData} {x : Str} {sp : Sp} {s₁ : Shared} {vs : List Value} {ns : List Int}
  (KX : K.In s₁.heap) (hns : s₁.heap.Ns mainGlobals mg) (hb : s₁.heap.Ns builtinsNs mb) (hbb : ∀ x : Str, x ≠ "__name__" -> mb x = bootBuiltins x) (hlim : s₁.heap.NoLimit) (hg : s₁.gens = #[])
  (ha : s₁.heap.get? a = some { cls := .type "list", data := .seq vs.toArray }) (hi : IntsAre vs ns) (hl : ns.length <= sizeLine) (hr : Room k callerA)
  (F : ∀ base : Heap, K.In base -> base.Ns mainGlobals mg -> FnOk P w K mg base CX k fa fd [x] sp) (hbind : ∀ (s : Shared) (u : Value), BindsTo s fd ⟨[u], []⟩ [(x, u)])
  (hsp : ∀ H : Hp, Only H -> SqL K H a (ns.map V.int) -> sp [.ref a] H (fun v _ => v = .bl true) fun _ _ _ => False)
  (hCX : ∀ H e s', CX [] H s₁ (fun _ _ _ => False) e s' -> False) :
  codeAny (model P w) callerA (.call (.ref fa) ⟨[.ref a], []⟩) (fun r s' => r = .ok (.ret (.bool true)) /\ OldK s₁.heap s'.heap /\ s'.os = s₁.os /\ AllBare s'.gens) s₁ := by
 have rv := yg7 hi
 have lenV := hi.length
 have core : ∀ H : Hp, Only H -> SqL K H a (ns.map V.int) -> HOk P w H s₁.heap -> (∀ b, H b ≠ none -> b = a) -> (H a ≠ none -> K.lookup a = none) ->
   codeAny (model P w) callerA (.call (.ref fa) ⟨[.ref a], []⟩) (fun r s' => r = .ok (.ret (.bool true)) /\ OldK s₁.heap s'.heap /\ s'.os = s₁.os /\ AllBare s'.gens) s₁ := by
  intro H hO hS hok hA hK
  have base_of : ∀ {b : Addr} {o : Obj}, s₁.heap.get? b = some o -> H b = none -> (hidT s₁.heap H).get? b = some o := fun e n => hidT_get e n
  have noA : ∀ {b : Addr} {o : Obj} {es : Array DictEntry} {ep : Nat}, s₁.heap.get? b = some o -> o.data = .dict es ep -> H b = none := fun {b o es ep} e d => by
   cases q : H b with
   | none => rfl
   | some u =>
    have e' : b = a := hA b (by rw [q]; simp)
    subst e'
    rw [ha] at e; cases e
    have d' : Data.seq vs.toArray _ = Data.dict es ep := d
    cases d'
  have nsK : ∀ {b : Addr} {m : Str -> Option Value}, s₁.heap.Ns b m -> (hidT s₁.heap H).Ns b m := fun {b m} ⟨o, es, ep, e, d, r⟩ => ⟨o, es, ep, base_of e (noA e d), d, r⟩
  have hKb : K.In (hidT s₁.heap H) := fun b o e => base_of (KX b o e) (by
   cases q : H b with
   | none => rfl
   | some u =>
    have e' : b = a := hA b (by rw [q]; simp)
    subst e'
    rw [hK (by rw [q]; simp)] at e; cases e)
  have hM : Mod K mg (hidT s₁.heap H) := ⟨hKb, nsK hns, ⟨mb, nsK hb, hbb⟩, let ⟨mc, h1, h2⟩ := hlim; ⟨mc, nsK h1, h2⟩⟩
  have e0 : Env0 P w K mg (hidT s₁.heap H) callerA [] s₁ H := ⟨rfl, hM, fun b o e => of_hidT e, Nat.le_of_eq (zc9 _ _), trivial, fun b hb => absurd (show b ∈ ([] : List Addr) from hb) (by simp), hok, .of_eq hg⟩
  refine codeAny_mono ((F _ hKb (nsK hns)).run callerA [] s₁ H ⟨[.ref a], []⟩ [.ref a] [.ref a] _ _ hr e0 (hbind s₁ (.ref a)) (.cons rfl .nil) (hsp H hO hS)) fun r s' h => ?_
  cases r with
  | error e => exact (hCX H e s' h).elim
  | ok fl =>
   cases fl with
   | next => exact False.elim h
   | brk => exact False.elim h
   | cont => exact False.elim h
   | ret u =>
    obtain ⟨v, H', os, bare, un, hok', r', q⟩ := h
    have q' : v = .bl true := q
    subst q'
    obtain rfl : u = Value.bool true := r'
    refine ⟨rfl, OldK.of_keep fun b o e => ?_, os, bare⟩
    cases q : H b with
    | none => exact un.keep b o e q (by intro z; exact absurd (show b ∈ ([] : List Addr) from z) (by simp)) (by simp)
    | some u =>
     rcases hO b with z | ⟨ob, xs, z⟩
     ·rw [q] at z; cases z
     ·have z2 := un.frzs b ob _ z
      obtain ⟨e1, _⟩ := hok b _ z
      obtain ⟨e2, _⟩ := hok' b _ z2
      rw [e] at e1; cases e1
      exact e2
 cases hk : K.lookup a with
 | some o =>
  have e := KX a o hk
  rw [ha] at e
  cases e
  refine core (fun _ => none) (fun _ => .inl rfl) (.inr ⟨_, vs.toArray, _, hk, rfl, rfl, rfl, by rw [List.size_toArray, lenV]; exact hl, by simpa using rv⟩) (fun b u z => by have z' : (none : Option HO) = some u := z; cases z') (fun b z => absurd rfl z) fun z => absurd rfl z
 | none =>
  refine core (fun b => if b = a then some (.frz { cls := .type "list", data := .seq vs.toArray } (.lst (ns.map V.int))) else none) (fun b => ?_) (.inl (.inr ⟨{ cls := .type "list", data := .seq vs.toArray }, if_pos rfl⟩)) (fun b u z => ?_) (fun b z => ?_) fun _ => hk
  ·by_cases hb : b = a
   ·exact .inr ⟨_, _, if_pos hb⟩
   ·exact .inl (if_neg hb)
  ·by_cases hb : b = a
   ·have z' := (if_pos hb).symm.trans z
    cases z'
    subst hb
    exact ⟨ha, by rw [List.length_map]; exact hl, vs, _, rv, ha⟩
   ·have z' := (if_neg hb).symm.trans z
    cases z'
  ·by_cases hb : b = a
   ·exact hb
   ·exact absurd (if_neg hb) z
theorem walk_of {l : PySem.W.OpenLaw} {n k : Nat} {q : Program} {loose : List Str} {XP : (Str -> Option Value) -> Heap -> Prop} {YP : World -> Heap -> Prop} {d : DefRec} {K : Params -> Frag} {CX : World -> CXT} {sp : World -> Sp} {x : Str}
  (hn : l.most = some n) (hn2 : n <= sizeLine) (hdf : d.params.defaults = []) (hr : Room k callerA)
  (hY : ∀ (w : World) (h : Heap), YP w h -> (K w.params).In h)
  (F : ∀ (w : World) (mg : Str -> Option Value) (fa : Addr) (h : Heap), (K w.params).In h -> h.Ns mainGlobals mg -> mg d.name = some (.ref fa) ->
   ∃ fd : FuncData, (∀ (s : Shared) (u : Value), BindsTo s fd ⟨[u], []⟩ [(x, u)]) /\
    ∀ base : Heap, (K w.params).In base -> base.Ns mainGlobals mg -> FnOk l.prog w (K w.params) mg base (CX w) k fa fd [x] (sp w))
  (hsp : ∀ (w : World) (H : Hp) (a : Addr) (ns : List Int), ns.length <= n -> Only H -> SqL (K w.params) H a (ns.map V.int) -> sp w [.ref a] H (fun v _ => v = .bl true) fun _ _ _ => False)
  (hCX : ∀ (w : World) (H : Hp) (s : Shared) (e : Value) (s' : Shared), CX w [] H s (fun _ _ _ => False) e s' -> False) :
  PySem.W.WalkO q loose XP YP l.row.toRowW d [] (fun f vs => PySem.call f vs) := by
 refine Att.attach_call hn hdf fun w s₀ s₁ mg mb fa o pm cd doc a vs ns G Y ho hd hcd hmg hobj hints hlen hg => ?_
 have KX := hY w _ Y
 obtain ⟨fd, hb, hF⟩ := F w mg fa _ KX G.T.g hmg
 exact law_call KX G.T.g G.T.b G.T.builtins G.T.nolimit hg hobj hints (Nat.le_trans hlen hn2) hr hF hb (fun H hO hS => hsp w H a ns hlen hO hS) fun H e s' => hCX w H s₁ e s'
def yf3 (s : Stmt) (j : Nat) : Stmt := match s with
 | .ClassDef _ _ _ body _ _ _ _ _ _ _ => body.getD j (.Pass ⟨0, 0, 0, 0⟩)
 | _ => .Pass ⟨0, 0, 0, 0⟩
def xb3 (s : Stmt) : Arguments := match s with
 | .FunctionDef _ a _ _ _ _ _ _ _ _ => a
 | _ => { posonlyargs := [], args := [], vararg := none, kwonlyargs := [], kw_defaults := [], kwarg := none, defaults := [] }
def xa9 (s : Stmt) : List Stmt := match s with
 | .FunctionDef _ _ b _ _ _ _ _ _ _ => b
 | _ => []
def xa4 (s : Stmt) : Scope := match s with
 | .FunctionDef _ _ _ _ _ _ sc _ _ _ => sc
 | _ => { kind := .function, names := [], isGenerator := false, isCoroutine := false }
abbrev CX0 : CXT := fun _ _ _ _ _ _ => False
abbrev E0 : XK := fun _ _ _ => False
structure Fun (K : Frag) (x qual : Str) (st : Stmt) (f : Addr) (fd : FuncData) : Prop where
 ex : ∃ (oc : Value) (od : Option Addr) (kV doc pm : Value) (an : Option Addr) (cdv ct : Value) (osl : Array (Option Value)),
  fd = fnOf x qual (xb3 st) (xa9 st) (xa4 st) .none kV doc pm an cdv ct /\ K.lookup f = some ⟨oc, od, .func fd, osl⟩ /\ codeIn K cdv qual = true
 kp : keepIn K (.ref f) = true
section
variable {P : Program} {w : World} {K : Frag} {mg : Str -> Option Value} {base : Heap}
theorem Fun.ok {x qual : Str} {st : Stmt} {f : Addr} {fd : FuncData} {N ps : List Str} {k : Nat} {sp : Sp} (F : Fun K x qual st f fd) (S : FnScope N ps (xa4 st)) (len : ∀ vs H Q E, sp vs H Q E -> vs.length = ps.length)
  (hbody : ∀ (cdv : Value) (A : Around) (outer : List Env) (s : Shared) (H : Hp) (vs : List V) (Q : VK) (E : XK), Room k (A.deeper (envOfC qual (xa4 st) s.heap.objs.size f cdv)) -> sp vs H Q E ->
   ∃ t, PSs (cxOf CX0 P w K mg base N qual (xa4 st) f cdv A outer s H E).nox (xa9 st) t /\ t { nx := fun _ H' => Q .non H', rt := Q } (start N vs) H) : FnOk P w K mg base CX0 (k + 1) f fd ps sp := by
 obtain ⟨oc, od, kV, doc, pm, an, cdv, ct, osl, rfl, lk, hcd⟩ := F.ex
 refine fn_of lk hcd S len fun A outer s H vs Q E hr hsp => ?_
 obtain ⟨t, h, q⟩ := hbody cdv A outer s H vs Q E hr hsp
 exact ⟨t, h.nox, q⟩
theorem Fun.binds {x qual : Str} {st : Stmt} {f : Addr} {fd : FuncData} {ps : List Str} (F : Fun K x qual st f fd)
  (h : ∀ (kV doc pm : Value) (an : Option Addr) (cdv ct : Value) (us : List Value), us.length = ps.length -> bindArgs (fnOf x qual (xb3 st) (xa9 st) (xa4 st) .none kV doc pm an cdv ct) ⟨us, []⟩ = pure (ps.zip us)) : xc5 K fd ps [] := by
 obtain ⟨oc, od, kV, doc, pm, an, cdv, ct, osl, rfl, lk, hcd⟩ := F.ex
 exact .all (h kV doc pm an cdv ct)
theorem xc8 {x qual : Str} {st : Stmt} {f : Addr} {oc : Value} {od an : Option Addr} {osl : Array (Option Value)} {kV doc pm cdv ct : Value} (l : K.lookup f = some ⟨oc, od, .func (fnOf x qual (xb3 st) (xa9 st) (xa4 st) .none kV doc pm an cdv ct), osl⟩)
  (c : codeIn K cdv qual = true) (k : keepIn K (.ref f) = true) : Fun K x qual st f (fnOf x qual (xb3 st) (xa9 st) (xa4 st) .none kV doc pm an cdv ct) := ⟨⟨oc, od, kV, doc, pm, an, cdv, ct, osl, rfl, l, c⟩, k⟩
end
section
variable {X : Cx}
theorem pv (i : Nat) {x : Str} {pos : Pos} (hN : X.N[i]? = some x := by rfl) (hv : Vis X.env.scope x := by first | exact Or.inl rfl | exact Or.inr (Or.inl rfl) | exact Or.inr (Or.inr rfl)) (hd : (x == ("__debug__" : Str)) = false := by decide)
  (hcd : (x == ("__classdict__" : Str)) = false := by decide) : PE X (.Name x pos) (tVar i) := pe_var hN hv hd hcd
end
theorem iteF {A B : Prop} (h : B) : if false = true then A else B := by
 rw [if_neg Bool.false_ne_true]
 exact h
theorem iteT {A B : Prop} (h : A) : if true = true then A else B := by
 rw [if_pos rfl]
 exact h
theorem ite2 {c A B : Prop} [Decidable c] (h1 : c -> A) (h2 : ¬ c -> B) : if c then A else B := by
 by_cases h : c
 ·rw [if_pos h]
  exact h1 h
 ·rw [if_neg h]
  exact h2 h
def Same (H H' : Hp) : Prop := ∀ b o, H b = some o -> H' b = some o
theorem Same.refl (H : Hp) : Same H H := fun _ _ h => h
theorem Same.trans {H H1 H2 : Hp} (a : Same H H1) (b : Same H1 H2) : Same H H2 := fun c o h => b c o (a c o h)
theorem Same.free {H H' : Hp} (e : Same H H') {l : Addr} (h : H' l = Option.none) : H l = Option.none := by
 cases q : H l with
 | none => rfl
 | some o =>
  rw [e l o q] at h
  cases h
theorem Same.seq {K : Frag} {H H' : Hp} {a : Addr} {xs : List V} (e : Same H H') (h : SqL K H a xs) : SqL K H' a xs := by
 rcases h with (h | ⟨o, h⟩) | h
 ·exact .inl (.inl (e _ _ h))
 ·exact .inl (.inr ⟨o, e _ _ h⟩)
 ·exact .inr h
def xu2 (env : Env) : List (Str × NameKind) -> List (Str × Addr) -> List (Str × Addr)
 | [], cs => cs
 | (n, k) :: r, cs => xu2 env r (if k == .free then (n, (env.cells.lookup n).getD 0) :: cs else cs)
theorem xy7 {env : Env} : ∀ (names : List (Str × NameKind)) (cs : List (Str × Addr)), (∀ p ∈ names, p.2 = .free -> ∃ c, env.cells.lookup p.1 = some c) ->
  (forIn names cs (fun (x : Str × NameKind) (r : List (Str × Addr)) => (do if x.2 == .free then pure (.yield ((x.1, <- cellOf env x.1) :: r)) else pure (.yield r) : Sem (ForInStep (List (Str × Addr)))))) = (pure (xu2 env names cs) : Sem _)
 | [], cs, _ => rfl
 | (n, k) :: r, cs, h => by
  rw [List.forIn_cons]
  by_cases hk : (k == NameKind.free) = true
  ·obtain ⟨c, e⟩ := h (n, k) List.mem_cons_self (by simpa using hk)
   have ec : cellOf env n = pure c := by unfold cellOf; rw [show env.cells.lookup n = some c from e]
   simp only [hk, if_true, ec, pure_bind]
   rw [xy7 r _ fun p hp => h p (List.mem_cons_of_mem _ hp)]
   simp only [xu2, hk, if_true, show env.cells.lookup n = some c from e, Option.getD_some]
  ·simp only [hk, if_false, pure_bind, Bool.false_eq_true]
   rw [xy7 r _ fun p hp => h p (List.mem_cons_of_mem _ hp)]
   simp only [xu2, hk, if_false, Bool.false_eq_true]
theorem yk5 {scope : Scope} {env : Env} (h : ∀ p ∈ scope.names, p.2 = .free -> ∃ c, env.cells.lookup p.1 = some c) : closureFor scope env = pure (xu2 env scope.names []) := by
 rw [<- xy7 scope.names [] h]
 simp only [closureFor]
 rw [bind_pure]
theorem yc8 {env : Env} {x : Str} {c : Addr} : ∀ (names : List (Str × NameKind)) (cs : List (Str × Addr)), (∀ p ∈ names, p.2 = .free -> ∃ c, env.cells.lookup p.1 = some c) ->
  (xu2 env names cs).lookup x = some c -> cs.lookup x = some c \/ env.cells.lookup x = some c
 | [], cs, _, h => .inl h
 | (n, k) :: r, cs, hf, h => by
  have hf' : ∀ p ∈ r, p.2 = .free -> ∃ c, env.cells.lookup p.1 = some c := fun p hp => hf p (List.mem_cons_of_mem _ hp)
  unfold xu2 at h
  rcases yc8 r _ hf' h with q | q
  ·by_cases hk : (k == NameKind.free) = true
   ·rw [if_pos hk] at q
    obtain ⟨c', e⟩ := hf (n, k) List.mem_cons_self (by simpa using hk)
    have e : env.cells.lookup n = some c' := e
    rw [e, Option.getD_some, List.lookup_cons] at q
    cases hx : (x == n) with
    | true =>
     rw [hx] at q
     have : x = n := by simpa using hx
     subst this
     cases q
     exact .inr e
    | false => rw [hx] at q; exact .inl q
   ·rw [if_neg hk] at q; exact .inl q
  ·exact .inr q
theorem xy6 {env : Env} {x : Str} : ∀ (names : List (Str × NameKind)) (cs : List (Str × Addr)), ((x, NameKind.free) ∈ names \/ ∃ c, cs.lookup x = some c) -> ∃ c, (xu2 env names cs).lookup x = some c
 | [], cs, h => by
  rcases h with h | h
  ·cases h
  ·exact h
 | (n, k) :: r, cs, h => by
  unfold xu2
  refine xy6 r _ ?_
  rcases h with h | ⟨c, h⟩
  ·rcases List.mem_cons.mp h with e | h
   ·cases e
    right
    rw [if_pos (by rfl), List.lookup_cons]
    simp
   ·exact .inl h
  ·right
   split
   ·rw [List.lookup_cons]
    cases (x == n) with
    | true => exact ⟨_, rfl⟩
    | false => exact ⟨c, h⟩
   ·exact ⟨c, h⟩
theorem xt4 {env : Env} : ∀ {names : List (Str × NameKind)} {x : Str}, names.lookup x = some .free ->
    ((names.map fun (n, k) => if (k == NameKind.free && env.scope.kind == .function && env.kindOf n == some .cell) then (n, NameKind.cell) else (n, k)).lookup x = some .cell \/
     (names.map fun (n, k) => if (k == NameKind.free && env.scope.kind == .function && env.kindOf n == some .cell) then (n, NameKind.cell) else (n, k)).lookup x = some .free)
  | [], _, h => by simp at h
  | (n, k) :: r, x, h => by
    have ih := @xt4 env r x
    rw [List.map_cons]
    cases hx : x == n with
    | true =>
      simp only [List.lookup_cons, hx] at h
      cases h
      dsimp only
      split
      · left; rw [List.lookup_cons, hx]
      · right; rw [List.lookup_cons, hx]
    | false =>
      simp only [List.lookup_cons, hx] at h
      dsimp only
      split
      · simp only [List.lookup_cons, hx]; exact ih h
      · simp only [List.lookup_cons, hx]; exact ih h
theorem xv7 {env : Env} : ∀ {names : List (Str × NameKind)} {x : Str} {k : NameKind}, k = .cell \/ k = .free ->
  (names.map fun (n, k) => if (k == NameKind.free && env.scope.kind == .function && env.kindOf n == some .cell) then (n, NameKind.cell) else (n, k)).lookup x = some k -> ∃ k', (k' = .cell \/ k' = .free) /\ (x, k') ∈ names
 | [], _, _, _, h => by simp at h
 | (n, k) :: r, x, k', hk, h => by
  have ih := @xv7 env r x k' hk
  rw [List.map_cons] at h
  cases hx : x == n with
  | true =>
   have : x = n := by simpa using hx
   subst this
   dsimp only at h
   split at h
   ·rename_i hc
    rw [List.lookup_cons, hx] at h
    refine ⟨k, .inr ?_, List.mem_cons_self⟩
    simp only [Bool.and_eq_true] at hc
    simpa using hc.1.1
   ·rw [List.lookup_cons, hx] at h
    cases h
    exact ⟨_, hk, List.mem_cons_self⟩
  | false =>
   dsimp only at h
   have h' : (r.map fun (n, k) => if (k == NameKind.free && env.scope.kind == .function && env.kindOf n == some .cell) then (n, NameKind.cell) else (n, k)).lookup x = some k' := by
    split at h
    ·simpa only [List.lookup_cons, hx] using h
    ·simpa only [List.lookup_cons, hx] using h
   obtain ⟨k2, a, b⟩ := ih h'
   exact ⟨k2, a, List.mem_cons_of_mem _ b⟩
def xp2 (X : Cx) (scope : Scope) (N : List Str) (fp : List Addr) (s : Shared) (H : Hp) : Cx :=
 { X with N := N, s₀ := s, H₀ := H, env := compEnvC scope (xu2 X.env scope.names []) s.heap.objs.size X.env, outer := X.stack, stack := X.stack, ex := fp, fn := fun _ => false, pn := [], xe := fun _ _ => False }
def seen (js : List (Option Nat)) (σ : St) : St := js.map fun o => o.bind fun j => (σ[j]?).join
def xy4 (X : Cx) (scope : Scope) (N : List Str) (js : List (Option Nat)) : Bool :=
 (scope.names.all fun p => p.2 != .cell && (p.2 != .free || X.env.kindOf p.1 == some .cell) && (p.2 != .local || scope.names.lookup p.1 == some .local)) &&
 (js.length == N.length) && ((N.zip js).all fun p => match p.2 with | none => true | some j => X.N[j]? == some p.1 && scope.names.lookup p.1 == some .free && X.env.kindOf p.1 == some .cell)
section
variable {X : Cx} {tg iter elt : Expr} {scope : Scope} {N : List Str} {js : List (Option Nat)} {pos : Pos}
theorem yv9 {pins : List (Addr × Obj)} {σ : St} {H : Hp} {s : Shared} {h' : Heap} {fp : List Addr} {t' : Nat} (I : Inv X pins σ H s) (hk : scope.kind = .function) (hck : xy4 X scope N js = true)
  (hf : ∀ b ∈ fp, FpOk X pins H b) (hfl : ∀ b ∈ fp, b < s.heap.objs.size) (hns : h'.Ns s.heap.objs.size (fun _ => none)) (kp : ∀ b o, s.heap.get? b = some o -> h'.get? b = some o) :
  Inv (xp2 X scope N fp s H) [] (seen js σ) H { s with heap := h', toks := t' } := by
 unfold xy4 at hck
 simp only [Bool.and_eq_true] at hck
 obtain ⟨⟨h1, h2⟩, h3⟩ := hck
 have hlen : js.length = N.length := by simpa using h2
 have g1 : ∀ p ∈ scope.names, p.2 ≠ .cell /\ (p.2 = .free -> X.env.kindOf p.1 = some .cell) := fun p hp => by
  have q := List.all_eq_true.mp h1 p hp
  simp only [Bool.and_eq_true, bne_iff_ne, ne_eq, Bool.or_eq_true, beq_iff_eq] at q
  exact ⟨q.1.1, fun e => q.1.2.resolve_left fun z => z e⟩
 have hcl : ∀ p ∈ scope.names, p.2 = .free -> ∃ c, X.env.cells.lookup p.1 = some c := fun p hp e => I.ok.has _ (.inl ((g1 p hp).2 e))
 have back : ∀ x c, (xu2 X.env scope.names []).lookup x = some c -> X.env.cells.lookup x = some c := fun x c e => by
  rcases yc8 _ _ hcl e with q | q
  ·cases q
  ·exact q
 refine ⟨⟨I.ok.mod, ?_, I.ok.glob, I.ok.blt, Nat.le_refl _, fun x y c h1 h2 => I.ok.inj x y c (back _ _ h1) (back _ _ h2), fun x hx => ?_, fun _ _ z => (by cases z), I.ok.hd, I.ok.frames, .inl rfl, fun b hb => ⟨?_, fun x c e => ?_⟩, I.bs, Nat.le_trans I.ok.bsz I.sz, fun b o e hb => ?_, fun b hb => ?_, I.stack, I.stkFree⟩,
  rfl, I.bare, Un.kept kp, ⟨_, hns, fun i x v e1 e2 e3 => ?_⟩, fun x c e => ?_, I.hok.fresh (Nat.le_refl _), fun x c e => I.freeC x c (back _ _ e), fun p hp => (by cases hp), I.hok.kept kp, ?_⟩
 ·show (relabel scope X.env).kind = _
  exact hk
 ·have hx' : ∃ k, (k = .cell \/ k = .free) /\ (relabel scope X.env).names.lookup x = some k := by
   rcases hx with q | q
   ·exact ⟨_, .inl rfl, q⟩
   ·exact ⟨_, .inr rfl, q⟩
  obtain ⟨k, hk2, q⟩ := hx'
  obtain ⟨k', a, b⟩ := xv7 (env := X.env) hk2 q
  rcases a with a | a
  ·exact absurd a (g1 _ b).1
  ·subst a
   exact xy6 _ _ (.inl b)
 ·exact Nat.ne_of_lt (hfl b hb)
 ·exact (hf b hb).2.2.2.2.1 x c (back _ _ e)
 ·rcases (hf b hb).2.2.2.1 with z | z
  ·exact I.ok.noex b o e z
  ·exact absurd (Nat.lt_of_lt_of_le (Heap.lt_size e) (Nat.le_trans I.ok.bsz z)) (Nat.lt_irrefl _)
 ·intro hb2
  obtain ⟨_, q1, q2, _⟩ := hf b hb
  rcases List.mem_cons.mp (I.stkSub b hb2) with z | z
  ·exact q1 z
  ·exact q2 z
 ·have e1 : N[i]? = some x := e1
  unfold seen at e2
  rw [List.getElem?_map] at e2
  cases ej : js[i]? with
  | none => rw [ej] at e2; cases e2
  | some o =>
   rw [ej] at e2
   cases o with
   | none => cases e2
   | some j =>
    have e2 : (σ[j]?).join = some v := by simpa using e2
    have e4 : σ[j]? = some (some v) := by
     cases q : σ[j]? with
     | none => rw [q] at e2; cases e2
     | some w => rw [q] at e2; cases e2; rfl
    have hz : (N.zip js)[i]? = some (x, some j) := by
     rw [List.getElem?_zip_eq_some]; exact ⟨e1, ej⟩
    have q := List.all_eq_true.mp h3 _ (List.mem_of_getElem? hz)
    simp only [Bool.and_eq_true, beq_iff_eq] at q
    obtain ⟨⟨q1, q2⟩, q3⟩ := q
    obtain ⟨m, hn, hl⟩ := I.loc
    obtain ⟨u, r, l⟩ := hl j x v q1 e4 (.inr (.inl q3))
    refine ⟨u, r, ?_⟩
    rcases l with ⟨l, _⟩ | ⟨_, c, l2, l3⟩
    ·rw [q3] at l; cases l
    ·obtain ⟨c', hc'⟩ := xy6 (env := X.env) (x := x) scope.names [] (.inl (PySem.mem_of_lookup q2))
     have e5 := back _ _ hc'
     rw [l2] at e5
     cases e5
     refine .inr ⟨?_, c, hc', ?_⟩
     ·exact xt4 q2
     ·obtain ⟨o, ho, hd⟩ := l3
      exact ⟨o, kp _ _ ho, hd⟩
 ·obtain ⟨v, o, ho, hd⟩ := I.cell x c (back _ _ e)
  exact ⟨v, o, kp _ _ ho, hd⟩
 ·show (seen js σ).length = N.length
  unfold seen
  rw [List.length_map, hlen]
theorem yk4 {prog : Program} {w : World} {A : Around} {R : Result -> Shared -> Prop} {s : Shared} {it acc : Value} {env : Env} (I : Nat -> Shared -> Prop)
  (turn : ∀ n s, I n s -> wpAny (model prog w) A (pyNext it) (fun r s₁ => match r with
   | none => R (.ok .next) s₁
   | some v => wpAny (model prog w) A (letOwnedTupleGo tg it v) (fun _ s₁' => wpAny (model prog w) A (assign tg env v) (fun _ s₂ =>
     wpAny (model prog w) A (eval elt env) (fun x s₄ =>
       wpAny (model prog w) A (call (.builtin "list.append") [acc, x]) (fun _ s₅ => ∃ m, m < n /\ I m s₅) (fun _ _ => False) s₄) (fun _ _ => False) s₂) (fun _ _ => False) s₁') (fun _ _ => False) s₁) (fun _ _ => False) s)
  (n : Nat) (h : I n s) :
  codeAny (model prog w) A (.compLoop (.ListComp elt [⟨tg, iter, [], 0⟩] scope pos) 0 it acc env) R s := by
 refine codeAny_loop rfl I (fun n s hI => ?_) n h
 show wpAny _ A ((compTurn (.ListComp elt [⟨tg, iter, [], 0⟩] scope pos) 0 it acc env).onRaise (fun x => do noteFrame x env; theTreesLotGoes x)) _ _ s
 refine wpAny_noted ?_
 rw [compTurn_list1]
 refine wpAny_bind (wpAny_standAt (wpAny_bind (wpAny_mono (turn n s hI) (fun r s₁ h₁ => ?_) fun _ _ h' => h'.elim)))
 cases r with
 | none => exact wpAny_pure h₁
 | some v =>
  refine wpAny_bind (wpAny_mono h₁ (fun _ s₁' h₁' => ?_) fun _ _ h' => h'.elim)
  refine wpAny_bind (wpAny_mono h₁' (fun _ s₂ h₂ => ?_) fun _ _ h' => h'.elim)
  exact wpAny_bind (wpAny_bind (wpAny_mono h₂ (fun x s₄ h₄ => wpAny_bind (wpAny_mono h₄ (fun _ s₅ h₅ => wpAny_pure (wpAny_pure ⟨rfl, h₅⟩)) fun _ _ h' => h'.elim)) fun _ _ h' => h'.elim))
def tComp (js : List (Option Nat)) (wi : TI) (g : TG) (te : TE) : TE := fun σ H Q => wi σ H fun J H1 => ∀ D, H1 D = none -> ∃ W : Nat -> Nat -> St -> Hp -> Prop, (∃ m, W 0 m (seen js σ) (upd H1 D (.lst []))) /\
 ∀ i m σ' H', W i m σ' H' -> (J.stop i H' /\ Q (.ref D) H') \/ (J.go i H' /\ ∀ x H2, J.yld i H' x H2 -> g x σ' H2 fun σ3 H3 => te σ3 H3 fun v H4 => ∃ xs, H4 D = some (.lst xs) /\ xs.length < sizeLine /\ ∃ m', m' < m /\ W (i + 1) m' σ3 (upd H4 D (.lst (xs ++ [v]))))
theorem ze5 {wi : TI} {g : TG} {te : TE} {use : Option (Value -> Sem Unit)} {Qv : Value -> Shared -> Prop} (hc : X.calm = true) (hi : PI X tg iter wi) (hk : scope.kind = .function) (hck : xy4 X scope N js = true)
  (hg : ∀ fp s H, PG (xp2 X scope N fp s H) tg g) (he : ∀ fp s H, PE (xp2 X scope N fp s H) elt te)
  (hs : ∀ x, foldedSetIterable iter X.env x = pure x)
  {pins : List (Addr × Obj)} {σ : St} {H : Hp} {s : Shared} {Q : VK} (I : Inv X pins σ H s) (h : tComp js wi g te σ H Q)
  (hend : ∀ (D C : Addr) (H' : Hp) (s' : Shared), Inv X pins σ H' s' -> (∃ m, s'.heap.Ns C m) -> FpOk X pins H' C -> Q (.ref D) H' -> compPost (model X.prog X.w) X.A X.xe use Qv (.ref D) C (.ok .next) s') :
  wpAny (model X.prog X.w) X.A (comprehension (.ListComp elt [⟨tg, iter, [], 0⟩] scope pos) scope X.env (firstIterPos [⟨tg, iter, [], 0⟩] pos) (newList []) false (eval iter X.env) use) Qv X.xe s := by
 have hck' := hck
 unfold xy4 at hck'
 simp only [Bool.and_eq_true] at hck'
 obtain ⟨⟨h1, _⟩, _⟩ := hck'
 have g1 : ∀ p ∈ scope.names, p.2 ≠ .cell /\ (p.2 = .free -> X.env.kindOf p.1 = some .cell) /\ (p.2 = .local -> scope.names.lookup p.1 = some .local) := fun p hp => by
  have q := List.all_eq_true.mp h1 p hp
  simp only [Bool.and_eq_true, bne_iff_ne, ne_eq, Bool.or_eq_true, beq_iff_eq] at q
  exact ⟨q.1.1, fun e => q.1.2.resolve_left fun z => z e, fun e => q.2.resolve_left fun z => z e⟩
 have hcl : ∀ p ∈ scope.names, p.2 = .free -> ∃ c, X.env.cells.lookup p.1 = some c := fun p hp e => I.ok.has _ (.inl ((g1 p hp).2.1 e))
 refine wpAny_comprehension_free (use := use) (g := ⟨tg, iter, [], 0⟩) (gs := []) rfl hs (yk5 hcl) hk (fun p hp e => (g1 p hp).2.2 e) ?_
 refine thn (hi pins s σ H _ I h) fun v s1 h1 => thn h1 fun itv s2 h2 => ?_
 obtain ⟨it, fp, tn, J, H2, e, I2, T, st2, f2, hW⟩ := h2
 subst e
 have hfl : ∀ b ∈ fp, b < s2.heap.objs.size := fun b hb => by
  obtain ⟨o, ho, _⟩ := T.obj _ _ st2 b hb
  exact Heap.lt_size ho
 have hD : H2 s2.heap.objs.size = none := I2.hok.fresh (Nat.le_refl _)
 obtain ⟨W, ⟨m0, w0⟩, turn⟩ := hW _ hD
 refine wpAny_newObj_type (wpAny_newFunctionEnv (fun x hx => (g1 x hx).1) (by intro y hy; simp at hy) (fun h₁ hns₁ hsb₁ => ?_) hk)
 dsimp only at hns₁ hsb₁ ⊢
 have I3 : Inv X pins σ (upd H2 s2.heap.objs.size (.lst [])) { s2 with heap := s2.heap.push { cls := .type "list", dict := none, data := .seq ([] : List Value).toArray }, toks := s2.toks } :=
  I2.laid (t' := s2.toks) (fun b u e => Heap.get?_push_of_some _ e) (Nat.le_refl _) ⟨Nat.zero_le _, [], 0, .nil, Heap.get?_push_size _ rfl⟩
 generalize hs3 : ({ s2 with heap := s2.heap.push { cls := .type "list", dict := none, data := .seq ([] : List Value).toArray }, toks := s2.toks } : Shared) = s3 at I3
 have hh3 : s3.heap = s2.heap.push { cls := .type "list", dict := none, data := .seq ([] : List Value).toArray } := by rw [<- hs3]
 have e3 : ({ s2 with heap := h₁, toks := s2.toks + ([] : List (Str × Value)).length } : Shared) = { s3 with heap := h₁, toks := s3.toks } := by rw [<- hs3]; rfl
 rw [e3]
 rw [<- hh3] at hns₁ hsb₁ ⊢
 generalize hH3 : upd H2 s2.heap.objs.size (.lst []) = H3 at I3 w0
 generalize hDs : s2.heap.objs.size = D at *
 have f3 : ∀ b ∈ fp, FpOk X pins H3 b := fun b hb => by
  refine ⟨?_, (f2 b hb).2⟩
  rw [<- hH3, xa3 (Nat.ne_of_lt (hfl b hb))]
  exact (f2 b hb).1
 have szD : s3.heap.objs.size = D + 1 := by rw [hh3, Heap.size_push]; rw [<- hDs]
 have hfl3 : ∀ b ∈ fp, b < s3.heap.objs.size := fun b hb => Nat.lt_of_lt_of_le (hfl b hb) (by rw [szD]; exact Nat.le_succ _)
 have kp : ∀ b o, s3.heap.get? b = some o -> h₁.get? b = some o := fun b o e => by
  rw [hsb₁.2 b (Nat.ne_of_lt (Heap.lt_size e))]
  exact Heap.get?_push_of_some _ e
 have st3 : tn 0 h₁ := T.keep 0 _ _ st2 fun b hb o e => kp b o (by rw [hh3]; exact Heap.get?_push_of_some _ e)
 have J0 : Inv (xp2 X scope N fp s3 H3) [] (seen js σ) H3 { s3 with heap := h₁, toks := s3.toks } := yv9 I3 hk hck f3 hfl3 hns₁ kp
 have fpc : ∀ {H' : Hp}, (∀ b ∈ fp, H' b = none) -> ∀ b ∈ fp, FpOk (xp2 X scope N fp s3 H3) [] H' b := fun hn b hb =>
  ⟨hn b hb, (J0.ok.exf b hb).1, J0.ok.exfs b hb, .inl hb, (J0.ok.exf b hb).2, fun p hp => by cases hp⟩
 have lp : codeAny (model X.prog X.w) X.A (.compLoop (.ListComp elt [⟨tg, iter, [], 0⟩] scope pos) 0 (.ref it) (.ref D) (compEnvC scope (xu2 X.env scope.names []) s3.heap.objs.size X.env))
   (compPost (model X.prog X.w) X.A X.xe use Qv (.ref D) s3.heap.objs.size) { s3 with heap := h₁, toks := s3.toks } := by
  refine yk4 (fun n s' => ∃ i σ' H', Inv (xp2 X scope N fp s3 H3) [] σ' H' s' /\ tn i s'.heap /\ (∀ b ∈ fp, H' b = none) /\ W i n σ' H') ?_ m0 ⟨0, _, H3, J0, st3, fun b hb => (f3 b hb).1, w0⟩
  rintro n s4 ⟨i, σ4, H4, I4, st4, fr4, w4⟩
  rcases turn i n σ4 H4 w4 with ⟨stop, qn⟩ | ⟨go, step⟩
  ·refine thn (T.done (xp2 X scope N fp s3 H3) rfl rfl rfl hc i [] s4 σ4 H4 (fun _ _ => False) I4 (fpc fr4) st4 stop) fun r s5 ⟨hr, I5⟩ => ?_
   subst hr
   have I6 : Inv X pins σ H4 s5 := I3.call' (ch := fp) I5.os I5.base I5.hok I5.bare fun b hb => ⟨(f3 b hb).2.2.2.1, (f3 b hb).2.1, (f3 b hb).2.2.2.2.1, (f3 b hb).2.2.2.2.2⟩
   have fC : FpOk X pins H4 s3.heap.objs.size := I3.fpOk (Nat.le_refl _) I5.free
   obtain ⟨m, hn, _⟩ := I5.loc
   exact hend D s3.heap.objs.size H4 s5 I6 ⟨m, hn⟩ fC qn
  ·refine thn (T.item (xp2 X scope N fp s3 H3) rfl rfl rfl hc i [] s4 σ4 H4 (fun _ _ => False) I4 (fpc fr4) st4 go) fun r s5 ⟨u, hr, h5⟩ => ?_
   subst hr
   refine thn h5 fun _ s6 ⟨x, H6, I6, r6, y6, st6, fr6⟩ => ?_
   have I6' := I6.pinned (fpc fr6) (T.obj _ _ st6)
   refine thn (hg fp s3 H3 _ s6 σ4 H6 x u _ I6' r6 (step x H6 y6)) fun _ s7 ⟨σ7, H7, I7, q7⟩ => ?_
   refine thn (he fp s3 H3 _ s7 σ7 H7 _ I7 q7) fun u8 s8 ⟨v8, H8, I8, r8, xs, e8, l8, m', hm, w8⟩ => ?_
   refine thn (xx1 _ s8 σ7 H8 (.ref D) [v8] (.ref D) [u8] (fun _ H9 => H9 = upd H8 D (.lst (xs ++ [v8]))) I8 rfl (.cons r8 .nil) ⟨D, xs, v8, rfl, rfl, e8, l8, rfl⟩) fun _ s9 ⟨v9, H9, I9, _, e9⟩ => ?_
   subst e9
   refine ⟨m', hm, i + 1, σ7, _, I9.unpinned, T.keep _ _ _ st6 fun b hb o e => (I9.pin (b, o) (List.mem_append_right _ (List.mem_append_right _ (xo7 hb e)))).1, fun b hb => ?_, w8⟩
   obtain ⟨o, e, d⟩ := T.obj _ _ st6 b hb
   exact (I9.pin (b, o) (List.mem_append_right _ (List.mem_append_right _ (xo7 hb e)))).2.1
 exact codeAny_compStart_list lp (T.self _ 0 _ _ _ st3 lp)
theorem xp5 {wi : TI} {g : TG} {te : TE} (N : List Str) (js : List (Option Nat)) (hc : X.calm = true) (hi : PI X tg iter wi)
  (hg : ∀ fp s H, PG (xp2 X scope N fp s H) tg g) (he : ∀ fp s H, PE (xp2 X scope N fp s H) elt te) (hk : scope.kind = .function := by rfl) (hck : xy4 X scope N js = true := by rfl)
  (hs : ∀ x, foldedSetIterable iter X.env x = pure x := by intro _; rfl) : PE X (.ListComp elt [⟨tg, iter, [], 0⟩] scope pos) (tComp js wi g te) := by
 intro pins s σ H Q I h
 rw [eval_ListComp]
 refine ze5 (use := none) hc hi hk hck hg he hs I h fun D C H' s' I' hC fC q => ?_
 obtain ⟨m, hn⟩ := hC
 refine ⟨m, hn, fun h' sb => ?_⟩
 obtain ⟨f0, f1, f2, f3, f4, f5⟩ := fC
 exact ⟨.ref D, H', I'.turned (t' := s'.toks) (fun b o hb e => (sb.2 b hb).trans e) f0 f1 f3 f4 f5, rfl, q⟩
end
section
variable {X : Cx}
def CDivL (_ j : Int) : Prop := 0 < j /\ j < 2 ^ 250
theorem yu7 {j : Int} (h0 : 0 < j) (h : j < 2 ^ 250) : j.natAbs.log2 < 9000 := by
 have h1 : j.natAbs < 2 ^ 250 := by
  have e : (j.natAbs : Int) = j := Int.natAbs_of_nonneg (Int.le_of_lt h0)
  have : ((j.natAbs : Nat) : Int) < ((2 ^ 250 : Nat) : Int) := by rw [e]; exact h
  exact Int.ofNat_lt.mp this
 have h2 : j.natAbs ≠ 0 := by omega
 exact Nat.lt_of_lt_of_le ((Nat.log2_lt h2).mpr h1) (by decide)
theorem xu5 : OpR X (binaryOp .FloorDiv) (rI CDivL fun i j => .int (i / j)) := opI fun i j _ _ _ _ _ hc q => by
 refine floordiv_int (by have := hc.1; omega) ?_ (.inl (PyProof.noPylong_of_log2 (yu7 hc.1 hc.2)))
 rw [Int.fdiv_eq_ediv_of_nonneg _ (Int.le_of_lt hc.1)]
 exact q
def subTy (a b : String) : Bool := a == b || (a == "bool" && b == "int")
theorem yf0 {K : Frag} {t n : String} (ht : t = "NoneType" \/ t = "bool" \/ t = "int" \/ t = "str") (hn : n = "int" \/ n = "bool" \/ n = "str" \/ n = "list" \/ n = "tuple" \/ n = "dict") : kitOne K (.type t) (.type n) = some (subTy t n) := by
 rcases ht with rfl | rfl | rfl | rfl <;> rcases hn with rfl | rfl | rfl | rfl | rfl | rfl <;> kernel_rfl
theorem xw1 {x : Str} {n : String} {pos : Pos} (hg : Gl X x) (hm : X.mg x = none) (hv : bootBuiltins x = some (.type n)) (hn : x ≠ "__name__" := by decide) (hd : (x == ("__debug__" : Str)) = false := by decide) : PE X (.Name x pos) (tC (.ty n)) :=
 pe_bltn hg hm hv rfl hn hd
theorem xb0 : bootBuiltins "isinstance" = some (.builtin "isinstance") := by decide +kernel
theorem boot_min : bootBuiltins "min" = some (.builtin "min") := by decide +kernel
theorem boot_int : bootBuiltins "int" = some (.type "int") := by decide +kernel
theorem ze9 : bootBuiltins "bool" = some (.type "bool") := by decide +kernel
theorem yl2 : bootBuiltins "str" = some (.type "str") := by decide +kernel
end
structure FunD (K : Frag) (x qual : Str) (st : Stmt) (dV : Value) (f : Addr) (fd : FuncData) : Prop where
 ex : ∃ (oc : Value) (od : Option Addr) (kV doc pm : Value) (an : Option Addr) (cdv ct : Value) (osl : Array (Option Value)),
  fd = fnOf x qual (xb3 st) (xa9 st) (xa4 st) dV kV doc pm an cdv ct /\ K.lookup f = some ⟨oc, od, .func fd, osl⟩ /\ codeIn K cdv qual = true
 kp : keepIn K (.ref f) = true
section
variable {P : Program} {w : World} {K : Frag} {mg : Str -> Option Value} {base : Heap}
theorem FunD.ok {x qual : Str} {st : Stmt} {dV : Value} {f : Addr} {fd : FuncData} {N ps : List Str} {k : Nat} {sp : Sp} (F : FunD K x qual st dV f fd) (S : FnScope N ps (xa4 st)) (len : ∀ vs H Q E, sp vs H Q E -> vs.length = ps.length)
  (hbody : ∀ (cdv : Value) (A : Around) (outer : List Env) (s : Shared) (H : Hp) (vs : List V) (Q : VK) (E : XK), Room k (A.deeper (envOfC qual (xa4 st) s.heap.objs.size f cdv)) -> sp vs H Q E ->
   ∃ t, PSs (cxOf CX0 P w K mg base N qual (xa4 st) f cdv A outer s H E).nox (xa9 st) t /\ t { nx := fun _ H' => Q .non H', rt := Q } (start N vs) H) : FnOk P w K mg base CX0 (k + 1) f fd ps sp := by
 obtain ⟨oc, od, kV, doc, pm, an, cdv, ct, osl, rfl, lk, hcd⟩ := F.ex
 refine fn_of lk hcd S len fun A outer s H vs Q E hr hsp => ?_
 obtain ⟨t, h, q⟩ := hbody cdv A outer s H vs Q E hr hsp
 exact ⟨t, h.nox, q⟩
theorem zd0 {x qual : Str} {st : Stmt} {f : Addr} {oc dV : Value} {od an : Option Addr} {osl : Array (Option Value)} {kV doc pm cdv ct : Value} (l : K.lookup f = some ⟨oc, od, .func (fnOf x qual (xb3 st) (xa9 st) (xa4 st) dV kV doc pm an cdv ct), osl⟩)
  (c : codeIn K cdv qual = true) (k : keepIn K (.ref f) = true) : FunD K x qual st dV f (fnOf x qual (xb3 st) (xa9 st) (xa4 st) dV kV doc pm an cdv ct) := ⟨⟨oc, od, kV, doc, pm, an, cdv, ct, osl, rfl, l, c⟩, k⟩
theorem FunD.binds {x qual : Str} {st : Stmt} {T f : Addr} {fd : FuncData} {ps : List Str} {ds dvs : List Value} {tc : Value} {td : Option Addr} {n : Nat} {tsl : Array (Option Value)} (m : Nat) (hm : m + ds.length = ps.length) (F : FunD K x qual st (.ref T) f fd) (ht : K.lookup T = some ⟨tc, td, .seq dvs.toArray n, tsl⟩)
  (h : ∀ (kV doc pm : Value) (an : Option Addr) (cdv ct : Value) (us : List Value), us.length = m -> ∃ k, bindArgs (fnOf x qual (xb3 st) (xa9 st) (xa4 st) (.ref T) kV doc pm an cdv ct) ⟨us, []⟩ = seqItems? (.ref T) >>= k /\ k (some dvs.toArray) = pure (ps.zip (us ++ ds))) : xc5 K fd ps ds := by
 obtain ⟨oc, od, kV, doc, pm, an, cdv, ct, osl, rfl, lk, hcd⟩ := F.ex
 intro s us X hl
 rw [List.length_append] at hl
 obtain ⟨k, h1, h2⟩ := h kV doc pm an cdv ct us (by omega)
 exact binds_K X rfl ht rfl h1 h2
def gAB {α : Type} (a b : Nat) (us ws : List α) : List α := if us.length = a /\ ws.length = b then us ++ ws else []
theorem gAB_rel {a b : Nat} {vs : List V} {us : List Value} {zs : List V} {ws : List Value} (r : Vals vs us) (q : Vals zs ws) : Vals (gAB a b vs zs) (gAB a b us ws) := by
 unfold gAB
 rw [r.length, q.length]
 split
 ·exact r.append q
 ·exact .nil
theorem FunD.kbinds {x qual : Str} {st : Stmt} {T f : Addr} {fd : FuncData} {ps ks : List Str} {dvs : List Value} {tc : Value} {td : Option Addr} {n : Nat} {tsl : Array (Option Value)} (a b : Nat) (hab : 0 < ps.length)
  (F : FunD K x qual st (.ref T) f fd) (ht : K.lookup T = some ⟨tc, td, .seq dvs.toArray n, tsl⟩)
  (h : ∀ (kV doc pm : Value) (an : Option Addr) (cdv ct : Value) (us ws : List Value), us.length = a -> ws.length = b -> ∃ k, bindArgs (fnOf x qual (xb3 st) (xa9 st) (xa4 st) (.ref T) kV doc pm an cdv ct) ⟨us, ks.zip ws⟩ = seqItems? (.ref T) >>= k /\ k (some dvs.toArray) = pure (ps.zip (us ++ ws))) : KBinds K fd ps ks (gAB a b) (gAB a b) := by
 obtain ⟨oc, od, kV, doc, pm, an, cdv, ct, osl, rfl, lk, hcd⟩ := F.ex
 refine ⟨fun s us ws X hl => ?_, gAB_rel⟩
 have hc : us.length = a /\ ws.length = b := by
  unfold gAB at hl
  split at hl
  ·assumption
  ·rw [List.length_nil] at hl; omega
 obtain ⟨k, h1, h2⟩ := h kV doc pm an cdv ct us ws hc.1 hc.2
 have e : gAB a b us ws = us ++ ws := by unfold gAB; rw [if_pos hc]
 rw [e]
 exact binds_K X rfl ht rfl h1 h2
end
section
variable {X : Cx}
theorem xd7 {n : Nat} (h : n <= 1000) : n <= sizeLine := Nat.le_trans h (by decide)
def CPowS (i j : Int) : Prop := 0 <= j /\ j <= 1000000 /\ -(2 ^ 64) < i /\ i < 2 ^ 64
theorem yn0 : OpR X (binaryOp .Pow) (rI CPowS fun i j => .int (i ^ j.toNat)) := opI fun i j _ _ _ _ _ hc q => pow_int_small hc.1 hc.2.1 (by have := hc.2.2; omega) q
def tTupS (t : TA) : TE := fun σ H Q => t σ H fun xs H1 => xs.length <= 1000 /\ ∀ p, H1 p = none -> Q (.ref p) (upd H1 p (.tup xs))
def tLstS (t : TA) : TE := fun σ H Q => t σ H fun xs H1 => xs.length <= 1000 /\ ∀ p, H1 p = none -> Q (.ref p) (upd H1 p (.lst xs))
theorem xk6 {es : List Expr} {t : TA} {x1} {pos : Pos} (h : PA X es t) : PE X (.Tuple es x1 pos) (tTupS t) := by
 intro pins s σ H Q I hq
 refine wpAny_Tuple_spliced (thn (h pos pins s σ H _ I hq) fun us s1 ⟨xs, H1, I1, r, z, q⟩ => ⟨by rw [<- r.length]; exact xd7 z, ?_⟩)
 have hf : H1 s1.heap.objs.size = none := I1.hok.fresh (Nat.le_refl _)
 refine ⟨.ref s1.heap.objs.size, upd H1 s1.heap.objs.size (.tup xs), I1.laid (t' := s1.toks) (fun b u e => Heap.get?_push_of_some _ e) (Nat.le_refl _) ?_, rfl, q _ hf⟩
 exact ⟨xd7 z, us, r, ⟨_, Heap.get?_push_size _ rfl, rfl, _, rfl⟩⟩
theorem xc1 {es : List Expr} {t : TA} {pos : Pos} (h : PA X es t) : PE X (.List es pos) (tLstS t) := by
 intro pins s σ H Q I hq
 refine wpAny_List_spliced (thn (h pos pins s σ H _ I hq) fun us s1 ⟨xs, H1, I1, r, z, q⟩ => ⟨by rw [<- r.length]; exact xd7 z, ?_⟩)
 have hf : H1 s1.heap.objs.size = none := I1.hok.fresh (Nat.le_refl _)
 refine ⟨.ref s1.heap.objs.size, upd H1 s1.heap.objs.size (.lst xs), I1.laid (t' := s1.toks) (fun b u e => Heap.get?_push_of_some _ e) (Nat.le_refl _) ?_, rfl, q _ hf⟩
 exact ⟨xd7 z, us, 0, r, Heap.get?_push_size _ rfl⟩
end
theorem xb8 {t u : TS} {D : Ends} {σ : St} {H : Hp} (M : St -> Hp -> Prop) (h1 : ∀ N : St -> Hp -> Prop, (∀ σ' H', M σ' H' -> N σ' H') -> t { D with nx := N } σ H) (h2 : ∀ σ' H', M σ' H' -> u D σ' H') : tSeq t u D σ H := h1 (u D) h2
theorem xq5 {t t2 u : TS} {D : Ends} {σ : St} {H : Hp} (M : St -> Hp -> Prop) (h1 : ∀ N : St -> Hp -> Prop, (∀ σ' H', M σ' H' -> N σ' H') -> tSeq t t2 { D with nx := N } σ H) (h2 : ∀ σ' H', M σ' H' -> u D σ' H') : tSeq t (tSeq t2 u) D σ H := h1 (u D) h2
theorem yd5 {t t2 t3 u : TS} {D : Ends} {σ : St} {H : Hp} (M : St -> Hp -> Prop) (h1 : ∀ N : St -> Hp -> Prop, (∀ σ' H', M σ' H' -> N σ' H') -> tSeq t (tSeq t2 t3) { D with nx := N } σ H) (h2 : ∀ σ' H', M σ' H' -> u D σ' H') : tSeq t (tSeq t2 (tSeq t3 u)) D σ H := h1 (u D) h2
theorem yp2 {t t2 t3 t4 u : TS} {D : Ends} {σ : St} {H : Hp} (M : St -> Hp -> Prop) (h1 : ∀ N : St -> Hp -> Prop, (∀ σ' H', M σ' H' -> N σ' H') -> tSeq t (tSeq t2 (tSeq t3 t4)) { D with nx := N } σ H) (h2 : ∀ σ' H', M σ' H' -> u D σ' H') : tSeq t (tSeq t2 (tSeq t3 (tSeq t4 u))) D σ H := h1 (u D) h2
theorem seq_cut5 {t t2 t3 t4 t5 u : TS} {D : Ends} {σ : St} {H : Hp} (M : St -> Hp -> Prop) (h1 : ∀ N : St -> Hp -> Prop, (∀ σ' H', M σ' H' -> N σ' H') -> tSeq t (tSeq t2 (tSeq t3 (tSeq t4 t5))) { D with nx := N } σ H) (h2 : ∀ σ' H', M σ' H' -> u D σ' H') : tSeq t (tSeq t2 (tSeq t3 (tSeq t4 (tSeq t5 u)))) D σ H := h1 (u D) h2
section
variable {X : Cx}
theorem xd8 (K : Frag) (hK : X.K = K := by rfl) : IxR X (rIxL K) := by subst hK; exact zc0
theorem yf1 (K : Frag) (hK : X.K = K := by rfl) : IxR X (rIxT K) := by subst hK; exact ix_tup
theorem xj7 (K : Frag) (hK : X.K = K := by rfl) : xi1 X (.builtin "len") (fun xs H Q => ∃ p ys, xs = [.ref p] /\ (SqL K H p ys \/ SqT K H p ys) /\ Q (.int ys.length) H) := by subst hK; exact yl0
theorem xf8 {tg l : Expr} {tl : TE} (K : Frag) (hl : PE X l tl) (hK : X.K = K := by rfl) : PI X tg l (iList K tl) := by subst hK; exact pi_list hl
theorem ym8 {tg l : Expr} {tl : TE} (K : Frag) (hl : PE X l tl) (hK : X.K = K := by rfl) : PI X tg l (iTup K tl) := by subst hK; exact pi_tup hl
theorem yd9 {es : List Expr} {k : Nat} {t : TGs} {n : Nat} {pos : Pos} (K : Frag) (hc : X.calm = true) (h : PGs X es t) (hn : (assignEach es X.env).length = n := by rfl) (hst : (assignEach es X.env).findIdx? (·.1) = none := by rfl) (hK : X.K = K := by rfl) : PG X (.Tuple es k pos) (gTup K n t) := by subst hK; exact pg_tup hc h hn hst
theorem xd5 {e : Expr} {ta : TE} {f : Str} {pos : Pos} (K : Frag) (he : PE X e ta) (hb : attributeBase e f X.env (eval e X.env) = eval e X.env := by rfl) (hK : X.K = K := by rfl) : PE X (.Attribute e f pos) (tFld K ta f) := by subst hK; exact pe_fld he hb
end
def xs4 (H H' : Hp) : Prop := ∀ b xs, H b = some (.tup xs) -> H' b = some (.tup xs)
theorem Same.tup {H H' : Hp} (h : Same H H') : xs4 H H' := fun b xs e => h b _ e
theorem xs4.trans {H H1 H2 : Hp} (a : xs4 H H1) (b : xs4 H1 H2) : xs4 H H2 := fun c o h => b c o (a c o h)
theorem Same.upd {H H' : Hp} {p : Addr} {o : HO} (s : Same H H') (h : H p = none) : Same H (upd H' p o) := fun b u e => by
 rw [xa3 (xa7 e h)]; exact s b u e
theorem Same.new {H : Hp} {p : Addr} {o : HO} (h : H p = none) : Same H (L2.upd H p o) := (Same.refl H).upd h
theorem Same.none {H H' : Hp} (s : Same H H') {p : Addr} (h : H' p = none) : H p = none := s.free h
theorem comp_rel {K : Frag} {a D : Addr} {xs : List V} {g : TG} {te : TE} {σ0 : St} {H1 : Hp} {Q : Hp -> Prop} (R : V -> V -> Hp -> Prop) (ok : St -> Prop) (mono : ∀ H H' x v, xs4 H H' -> R x v H -> R x v H')
  (sq : SqL K H1 a xs) (hD : H1 D = none) (hz : xs.length <= 1000) (h0 : ok σ0)
  (hs : ∀ x σ' H (N : St -> V -> Hp -> Prop), x ∈ xs -> ok σ' -> Same H1 H -> (∀ σ3 v H4, R x v H4 -> Same H H4 -> ok σ3 -> N σ3 v H4) -> g x σ' H fun σ3 H3 => te σ3 H3 fun v H4 => N σ3 v H4)
  (hd : ∀ ys H', Same H1 H' -> H' D = some (.lst ys) -> Paired (fun x v => R x v H') xs ys -> Q H') :
  ∃ W : Nat -> Nat -> St -> Hp -> Prop, (∃ m, W 0 m σ0 (upd H1 D (.lst []))) /\
   ∀ i m σ' H', W i m σ' H' -> ((Itl K a).stop i H' /\ Q H') \/ ((Itl K a).go i H' /\ ∀ x H2, (Itl K a).yld i H' x H2 -> g x σ' H2 fun σ3 H3 => te σ3 H3 fun v H4 => ∃ xs, H4 D = some (.lst xs) /\ xs.length < sizeLine /\ ∃ m', m' < m /\ W (i + 1) m' σ3 (upd H4 D (.lst (xs ++ [v])))) := by
 refine ⟨fun i m σ' H' => m = xs.length - i /\ i <= xs.length /\ ok σ' /\ Same H1 H' /\ ∃ ys, H' D = some (.lst ys) /\ Paired (fun x v => R x v H') (xs.take i) ys, ⟨xs.length, by simp, Nat.zero_le _, h0, Same.new hD, [], xa1, by rw [List.take_zero]; exact .nil⟩, ?_⟩
 rintro i m σ' H' ⟨rfl, hi, hok, hsm, ys, hy, hp⟩
 have sq' := hsm.seq sq
 have hyl : ys.length = i := by rw [<- Paired.length hp, List.length_take, Nat.min_eq_left hi]
 by_cases hlt : i < xs.length
 ·refine .inr ⟨⟨xs, xs[i], sq', by simp [hlt]⟩, fun x H2 y => ?_⟩
  obtain ⟨e, y⟩ := y
  subst e
  have hx := y xs sq'
  refine hs x σ' _ (fun σ3 v H4 => ∃ xs', H4 D = some (.lst xs') /\ xs'.length < sizeLine /\ ∃ m', m' < xs.length - i /\ _) (List.mem_of_getElem? hx) hok hsm fun σ3 v H4 r s4 ok3 => ?_
  have tD : xs4 H4 (upd H4 D (.lst (ys ++ [v]))) := fun b zs e => by
   rw [xa3 (xk0 e (s4 _ _ hy) (by intro z; cases z))]; exact e
  refine ⟨ys, s4 _ _ hy, Nat.lt_of_lt_of_le (show ys.length < 1001 by omega) (by decide), xs.length - (i + 1), by omega, rfl, hlt, ok3, (hsm.trans s4).upd hD, ys ++ [v], xa1, ?_⟩
  have e2 : xs.take (i + 1) = xs.take i ++ [x] := by
   rw [List.take_add_one, hx]; rfl
  rw [e2]
  exact Paired.snoc (Paired.mapP hp fun b w q => mono _ _ _ _ (s4.tup.trans tD) q) (mono _ _ _ _ tD r)
 ·have e : i = xs.length := by omega
  subst e
  rw [List.take_length] at hp
  exact .inl ⟨⟨xs, sq', Nat.le_refl _⟩, hd ys H' hsm hy hp⟩
theorem yb1 {α β : Type} {f : α -> β} : ∀ {xs : List α} {ys : List β}, Paired (fun x y => y = f x) xs ys -> ys = xs.map f
 | _, _, .nil => rfl
 | _, _, .cons h t => by rw [h, yb1 t]; rfl
theorem yf5 {K : Frag} {a D : Addr} {xs : List V} {g : TG} {te : TE} {σ0 : St} {H1 : Hp} {Q : Hp -> Prop} (f : V -> V) (ok : St -> Prop)
  (sq : SqL K H1 a xs) (hD : H1 D = none) (hz : xs.length <= 1000) (h0 : ok σ0)
  (hs : ∀ x σ' H (N : St -> V -> Hp -> Prop), x ∈ xs -> ok σ' -> Same H1 H -> (∀ σ3 H4, Same H H4 -> ok σ3 -> N σ3 (f x) H4) -> g x σ' H fun σ3 H3 => te σ3 H3 fun v H4 => N σ3 v H4)
  (hd : ∀ H', Same H1 H' -> H' D = some (.lst (xs.map f)) -> Q H') :
  ∃ W : Nat -> Nat -> St -> Hp -> Prop, (∃ m, W 0 m σ0 (upd H1 D (.lst []))) /\
   ∀ i m σ' H', W i m σ' H' -> ((Itl K a).stop i H' /\ Q H') \/ ((Itl K a).go i H' /\ ∀ x H2, (Itl K a).yld i H' x H2 -> g x σ' H2 fun σ3 H3 => te σ3 H3 fun v H4 => ∃ xs, H4 D = some (.lst xs) /\ xs.length < sizeLine /\ ∃ m', m' < m /\ W (i + 1) m' σ3 (upd H4 D (.lst (xs ++ [v])))) :=
 comp_rel (fun x v _ => v = f x) ok (fun _ _ _ _ _ h => h) sq hD hz h0 (fun x σ' H N hx ho sm q => hs x σ' H N hx ho sm fun σ3 H4 s4 o3 => q σ3 _ H4 rfl s4 o3) fun ys H' sm hy hp => hd H' sm (by rw [<- yb1 hp]; exact hy)
theorem three {α : Type} {ys : List α} (h : ys.length = 3) : ∃ a b c, ys = [a, b, c] := by
 match ys, h with
 | [a, b, c], _ => exact ⟨a, b, c, rfl⟩
def rIxH : R2 := fun x y H Q => ∃ p xs i v, x = .ref p /\ y = .int i /\ H p = some (.lst xs) /\ atI xs i = some v /\ Q v H
theorem ix_lst {X : Cx} : IxR X rIxH := fun value slice pins s σ H x y v u Q I rx ry h hs =>
 zc0 value slice pins s σ H x y v u Q I rx ry (let ⟨p, xs, i, w, e1, e2, e3, e4, q⟩ := h; ⟨p, xs, i, w, e1, e2, SqL.of e3, e4, q⟩) hs
theorem atI_0 {α : Type} (a : α) (l : List α) : atI (a :: l) 0 = some a := by exact xf0 (j := 0) rfl
theorem atI_1 {α : Type} (a b : α) (l : List α) : atI (a :: b :: l) 1 = some b := by exact xf0 (j := 1) rfl
section
variable {X : Cx}
end
def zf1 (h : Heap) (ea T : Addr) (cls : Value) (dx : Option Addr) (fl : Value) : Prop :=
 ∃ oe vs oT ts a0, h.get? ea = some oe /\ oe.cls = cls /\ oe.dict = dx /\ oe.data = .fields vs /\ vs[0]? = some a0 /\ vs[1]? = some (.ref T) /\ T ≠ ea /\ h.get? T = some oT /\ oT.data = .fields ts /\ ts[3]? = some fl
abbrev Fly (h : Heap) (ea T : Addr) (cls : Value) (dx : Option Addr) : Prop := zf1 h ea T cls dx .none
def Made (h : Heap) (ea : Addr) (cls : Value) (dx : Option Addr) : Prop := ∃ oe vs a0, h.get? ea = some oe /\ oe.cls = cls /\ oe.dict = dx /\ oe.data = .fields vs /\ vs[0]? = some a0 /\ vs[1]? = some .none
structure Moved (h h' : Heap) (fs ch : List Addr) : Prop where
 keep : ∀ b o, h.get? b = some o -> b ∉ ch -> b ∉ fs -> h'.get? b = some o
 slot : ∀ b o, h.get? b = some o -> b ∉ ch -> b ∈ fs -> ∃ sl, h'.get? b = some { o with slots := sl }
theorem Moved.one {h h' : Heap} {fs : List Addr} {T : Addr} (k : ∀ b, b ≠ T -> h'.get? b = h.get? b) : Moved h h' fs [T] :=
 ⟨fun b o e n _ => by rw [k b (by simpa using n)]; exact e, fun b o e n _ => ⟨o.slots, by rw [k b (by simpa using n)]; exact e⟩⟩
theorem Moved.trans {h h1 h2 : Heap} {fs ch ch' : List Addr} (a : Moved h h1 fs ch) (b : Moved h1 h2 fs ch') : Moved h h2 fs (ch ++ ch') :=
 ⟨fun c o e n m => b.keep c o (a.keep c o e (fun z => n (List.mem_append_left _ z)) m) (fun z => n (List.mem_append_right _ z)) m, fun c o e n m => by
  obtain ⟨sl, e1⟩ := a.slot c o e (fun z => n (List.mem_append_left _ z)) m
  obtain ⟨sl', e2⟩ := b.slot c _ e1 (fun z => n (List.mem_append_right _ z)) m
  exact ⟨sl', e2⟩⟩
theorem Moved.less {h h' : Heap} {fs ch : List Addr} (a : Moved h h' fs ch) {ch' : List Addr} (k : ∀ b ∈ ch, b ∈ ch' \/ h.get? b = none) : Moved h h' fs ch' :=
 have z : ∀ b o, h.get? b = some o -> b ∉ ch' -> b ∉ ch := fun b o e n m => (k b m).elim n fun q => by rw [e] at q; cases q
 ⟨fun b o e n m => a.keep b o e (z b o e n) m, fun b o e n m => a.slot b o e (z b o e n) m⟩
theorem yr4 (o : Obj) (g) : (o.mapFields g).dict = o.dict := by
 cases o with
 | mk c d dt sl => cases dt <;> rfl
section
variable {M : Model} {A : Around} {E : Value -> Shared -> Prop} {s : Shared} {env : Env} {outer : List Env} {base : Heap} {L ea T : Addr} {cls fl : Value} {dx : Option Addr} {Q : Unit -> Shared -> Prop}
theorem yr1 {head : Value} {had : Bool} {oe : Obj} {vs : Array Value} {a0 : Value} (hfr : A.frames = some (env :: outer)) (hl : s.heap.FunFrames base (env :: outer)) (hf : env.frame = some L)
  (e1 : s.heap.get? ea = some oe) (e2 : oe.cls = cls) (e3 : oe.dict = dx) (e4 : oe.data = .fields vs) (e5 : vs[0]? = some a0) (e6 : 1 < vs.size)
  (h : ∀ h' T', zf1 h' ea T' cls dx (rawInt L) -> s.heap.get? T' = none -> Moved s.heap h' (frs (env :: outer)) [ea] -> Q () { s with heap := h' }) :
  wpAny M A (do let a <- frameOf env; let pl <- entryPlaceOf L had; let b <- EntryCells.newEntry head a .none (rawInt L) .none pl; setField (.ref ea) 1 b) Q E s := by
 have nfr : ea ∉ frs (env :: outer) := fun m => by
  obtain ⟨_, o', q1, q2⟩ := hl.mem m
  rw [e1] at q1
  cases q1
  exact q2 vs e4
 refine wpAny_bind (wpAny_frameOf_fun hfr hl hf fun g1 so => wpAny_bind (wpAny_entryPlaceOf fun pl isp => ?_))
 unfold EntryCells.newEntry newFields
 refine wpAny_bind (wpAny_newObj_type ?_ (isp.sizeOk5 _ _ _ _ _))
 have at1 : g1.get? ea = some oe := (so.2.1 ea nfr).trans e1
 have neT : g1.objs.size ≠ ea := Nat.ne_of_gt (Heap.lt_size at1)
 have len5 : ∀ (l : List Value), (([head, .ref L, .none, rawInt L, .none] ++ l).toArray)[3]? = some (rawInt L) := fun l => by simp
 generalize ho : ({ cls := .type "traceback", dict := none, data := .fields ([head, .ref L, .none, rawInt L, .none] ++ (if pl.isEmpty then List.replicate 6 Value.none else pl)).toArray } : Obj) = ot
 have hod : ot.data = .fields ([head, .ref L, .none, rawInt L, .none] ++ (if pl.isEmpty then List.replicate 6 Value.none else pl)).toArray := by rw [<- ho]
 have hnf : ot.isFreed = false := Obj.isFreed_of_fields hod
 have at2 : (g1.push ot).get? ea = some oe := Heap.get?_push_of_some _ at1
 refine wpAny_setField at2 e4 e6 (h _ g1.objs.size ?_ ?_ ?_)
 ·have fd := Obj.data_mapFields e4 (·.setIfInBounds 1 (Value.ref g1.objs.size))
  refine ⟨_, _, ot, _, a0, Heap.get?_update_self _ at2 (Obj.isFreed_of_fields fd), by rw [Obj.cls_mapFields]; exact e2, by rw [yr4]; exact e3, fd, by rw [Array.getElem?_setIfInBounds_ne (by decide)]; exact e5, by simp [e6], neT, ?_, hod, len5 _⟩
  rw [Heap.get?_update_other _ _ (Ne.symm neT)]
  exact Heap.get?_push_size g1 hnf
 ·exact Heap.get?_none_of_le (by rw [so.1]; exact Nat.le_refl _)
 ·refine ⟨fun b o q n1 n2 => ?_, fun b o q n1 n2 => ?_⟩
  ·rw [Heap.get?_update_other _ _ (fun z => n1 (by simp [z]))]
   exact Heap.get?_push_of_some _ ((so.2.1 b n2).trans q)
  ·obtain ⟨sl, q2⟩ := so.2.2 b o q
   refine ⟨sl, ?_⟩
   rw [Heap.get?_update_other _ _ (fun z => n1 (by simp [z]))]
   exact Heap.get?_push_of_some _ q2
theorem note_new (hfr : A.frames = some (env :: outer)) (hl : s.heap.FunFrames base (env :: outer)) (hf : env.frame = some L) (m : Made s.heap ea cls dx)
  (h : ∀ h' T', zf1 h' ea T' cls dx (rawInt L) -> s.heap.get? T' = none -> Moved s.heap h' (frs (env :: outer)) [ea] -> Q () { s with heap := h' }) : wpAny M A (noteFrame (.ref ea) env) Q E s := by
 obtain ⟨oe, vs, a0, e1, e2, e3, e4, e5, e6⟩ := m
 unfold noteFrame
 simp only [hf]
 refine wpAny_bind (wpAny_field e1 e4 e6 ?_)
 rw [if_neg (by decide)]
 exact yr1 hfr hl hf e1 e2 e3 e4 e5 (Array.getElem?_eq_some_iff.mp e6).1 h
theorem note_on (hfr : A.frames = some (env :: outer)) (hl : s.heap.FunFrames base (env :: outer)) (hf : env.frame = some L) (m : Fly s.heap ea T cls dx)
  (h : ∀ h' T', zf1 h' ea T' cls dx (rawInt L) -> s.heap.get? T' = none -> Moved s.heap h' (frs (env :: outer)) [T, ea] -> Q () { s with heap := h' }) : wpAny M A (noteFrame (.ref ea) env) Q E s := by
 obtain ⟨oe, vs, oT, ts, a0, e1, e2, e3, e4, e5, e6, e7, e8, e9, e10⟩ := m
 unfold noteFrame
 simp only [hf]
 refine wpAny_bind (wpAny_field e1 e4 e6 ?_)
 rw [if_pos (by simp)]
 refine wpAny_bind (wpAny_field e8 e9 e10 ?_)
 rw [if_neg (by simp [rawInt])]
 refine wpAny_bind (wpAny_setField e8 e9 (Array.getElem?_eq_some_iff.mp e10).1 ?_)
 have oth : ∀ b, b ≠ T -> (s.heap.update T (Obj.mapFields (·.setIfInBounds 3 Value.none))).get? b = s.heap.get? b := fun b n => Heap.get?_update_other _ _ (Ne.symm n)
 have rec' : ∀ b o, s.heap.get? b = some o -> (∀ vs, o.data ≠ .fields vs) -> b ≠ T := fun b o q nf z => by
  rw [z, e8] at q
  cases q
  exact nf ts e9
 have mv := Moved.one (fs := frs (env :: outer)) oth
 refine yr1 (s := { s with heap := _ }) hfr (hl.of_keeps fun b o q nf => ⟨o, (oth b (rec' b o q nf)).trans q, rfl⟩) hf ((oth ea (Ne.symm e7)).trans e1) e2 e3 e4 e5 (Array.getElem?_eq_some_iff.mp e6).1 fun h' T' f1 f2 f3 => h h' T' f1 ?_ (mv.trans f3)
 cases q : s.heap.get? T' with
 | none => rfl
 | some o =>
  by_cases z : T' = T
  ·rw [z, Heap.get?_update_self _ e8 (Obj.isFreed_of_fields (Obj.data_mapFields e9 _))] at f2; cases f2
  ·rw [oth T' z, q] at f2; cases f2
theorem xs9 (m : zf1 s.heap ea T cls dx fl) (h : ∀ h', Fly h' ea T cls dx -> (∀ b, b ≠ T -> h'.get? b = s.heap.get? b) -> Q () { s with heap := h' }) : wpAny M A (setFlight (.ref ea) none) Q E s := by
 obtain ⟨oe, vs, oT, ts, a0, e1, e2, e3, e4, e5, e6, e7, e8, e9, e10⟩ := m
 have sz : 3 < ts.size := (Array.getElem?_eq_some_iff.mp e10).1
 unfold setFlight
 refine wpAny_bind (wpAny_field e1 e4 e6 ?_)
 rw [if_pos (by simp)]
 have oth : ∀ b, b ≠ T -> (s.heap.update T (Obj.mapFields (·.setIfInBounds 3 Value.none))).get? b = s.heap.get? b := fun b n => Heap.get?_update_other _ _ (Ne.symm n)
 refine wpAny_setField e8 e9 sz (h _ ⟨oe, vs, _, _, a0, (oth ea (Ne.symm e7)).trans e1, e2, e3, e4, e5, e6, e7, Heap.get?_update_self _ e8 (Obj.isFreed_of_fields (Obj.data_mapFields e9 _)), Obj.data_mapFields e9 _, by simp [sz]⟩ oth)
theorem yn7 (hfr : A.frames = some (env :: outer)) (hl : s.heap.FunFrames base (env :: outer)) (hf : env.frame = some L) (m : Made s.heap ea cls dx)
  (h : ∀ h' T', Fly h' ea T' cls dx -> s.heap.get? T' = none -> Moved s.heap h' (frs (env :: outer)) [ea] -> Q () { s with heap := h' }) : wpAny M A (leaving env (.ref ea)) Q E s := by
 unfold leaving
 refine wpAny_bind (note_new hfr hl hf m fun h1 T1 f1 f2 f3 => ?_)
 refine xs9 (s := { s with heap := h1 }) f1 fun h2 f4 f5 => h h2 T1 f4 f2 ?_
 exact (f3.trans (Moved.one f5)).less fun b hb => (List.mem_append.mp hb).imp id fun z => by rw [List.mem_singleton] at z; rw [z]; exact f2
theorem zb4 (hfr : A.frames = some (env :: outer)) (hl : s.heap.FunFrames base (env :: outer)) (hf : env.frame = some L) (m : Fly s.heap ea T cls dx)
  (h : ∀ h' T', Fly h' ea T' cls dx -> s.heap.get? T' = none -> Moved s.heap h' (frs (env :: outer)) [ea, T] -> Q () { s with heap := h' }) :
  wpAny M A (noteFrame (.ref ea) env) (fun _ s2 => wpAny M A (setFlight (.ref ea) none) Q E s2) E s := by
 refine note_on hfr hl hf m fun h1 T1 f1 f2 f3 => ?_
 refine xs9 (s := { s with heap := h1 }) f1 fun h2 f4 f5 => h h2 T1 f4 f2 ?_
 refine (f3.trans (Moved.one f5)).less fun b hb => ?_
 rcases List.mem_append.mp hb with z | z
 ·exact .inl (by simp at z ⊢; exact z.symm)
 ·rw [List.mem_singleton] at z; rw [z]; exact .inr f2
theorem leave_on (hfr : A.frames = some (env :: outer)) (hl : s.heap.FunFrames base (env :: outer)) (hf : env.frame = some L) (m : Fly s.heap ea T cls dx)
  (h : ∀ h' T', Fly h' ea T' cls dx -> s.heap.get? T' = none -> Moved s.heap h' (frs (env :: outer)) [ea, T] -> Q () { s with heap := h' }) : wpAny M A (leaving env (.ref ea)) Q E s := by
 unfold leaving
 exact wpAny_bind (zb4 hfr hl hf m h)
end
theorem xd4.there {P : Program} {w : World} {H : Hp} {h : Heap} {a : Addr} {o : HO} (x : xd4 P w H h a o) : ∃ u, h.get? a = some u := by
 cases o with
 | lst xs => obtain ⟨_, _, _, _, e⟩ := x; exact ⟨_, e⟩
 | tup xs => obtain ⟨_, _, _, o, e, _⟩ := x; exact ⟨_, e⟩
 | dK kvs => obtain ⟨_, _, _, _, o, _, _, e, _⟩ := x; exact ⟨_, e⟩
 | dT kvs => obtain ⟨_, _, _, _, o, _, _, e, _⟩ := x; exact ⟨_, e⟩
 | set S n => obtain ⟨o, _, _, _, e, _⟩ := x; exact ⟨_, e⟩
 | ins C dx fs => obtain ⟨_, _, _, e, _⟩ := x; exact ⟨_, e⟩
 | own y => exact x
 | xd fs => obtain ⟨_, ⟨_, _, _, e, _⟩, _⟩ := x; exact ⟨_, e⟩
 | rng lo hi => obtain ⟨_, _, _, e⟩ := x; exact ⟨_, e⟩
 | frz ob u => obtain ⟨e, _⟩ := x; exact ⟨_, e⟩
 | tbl ps => exact ⟨_, x⟩
 | met f y => exact ⟨_, x⟩
 | ext φ => exact x.2.1
theorem HOk.none_of {P : Program} {w : World} {H : Hp} {h : Heap} (k : HOk P w H h) {a : Addr} (e : h.get? a = none) : H a = none := by
 cases q : H a with
 | none => rfl
 | some o => obtain ⟨u, e2⟩ := (k a o q).there; rw [e] at e2; cases e2
section
variable {X : Cx} {pins : List (Addr × Obj)} {σ : St} {H : Hp} {s : Shared} {h' : Heap}
theorem Inv.moved {ch : List Addr} (I : Inv X pins σ H s) (m : Moved s.heap h' (frs X.stack) ch) (hn : ∀ b ∈ ch, H b = none) (h0 : ∀ b ∈ ch, X.s₀.heap.get? b = none) (hL : ∀ b ∈ ch, b ≠ X.env.locals)
  (hc : ∀ b ∈ ch, ∀ x c, X.env.cells.lookup x = some c -> c ≠ b) (hp : ∀ b ∈ ch, ∀ p ∈ X.pn ++ pins, p.1 ≠ b) : Inv X pins σ H { s with heap := h' } := by
 have any : ∀ b o, b ∉ ch -> s.heap.get? b = some o -> ∃ sl, h'.get? b = some { o with slots := sl } := fun b o hb e => by
  by_cases m1 : b ∈ frs X.stack
  ·exact m.slot b o e hb m1
  ·exact ⟨o.slots, m.keep b o e hb m1⟩
 have neC : ∀ b o, X.s₀.heap.get? b = some o -> b ∉ ch := fun b o e hb => by rw [h0 b hb] at e; cases e
 have neL : ∀ b o, X.s₀.heap.get? b = some o -> b ≠ X.env.locals := fun b o e => Nat.ne_of_lt (Nat.lt_of_lt_of_le (Heap.lt_size e) I.ok.above)
 have nst : ∀ b, b ≠ X.env.locals -> b ∉ X.fs -> b ∉ frs X.stack := fun b h1 h2 h3 => (List.mem_cons.mp (I.stkSub b h3)).elim h1 h2
 have cellK : ∀ x c, X.env.cells.lookup x = some c -> ∀ v, s.heap.IsCell c v -> h'.IsCell c v := fun x c e v ⟨o, ho, hd⟩ => by
  obtain ⟨sl, q⟩ := any c o (fun z => hc c z x c e rfl) ho
  exact ⟨_, q, hd⟩
 have trk : ∀ b u, H b = some u -> b ∉ ch /\ b ∉ frs X.stack := fun b u e => ⟨fun z => (by rw [hn b z] at e; cases e), fun z => (by rw [I.stkFree b z] at e; cases e)⟩
 refine ⟨I.ok, I.os, I.bare, ⟨fun b o e n hb hx => ?_, fun b o e n hb hx => ?_, I.base.free, fun b o e hx => ?_, I.base.tups, I.base.frzs, I.base.tbls⟩, ?_, fun x c e => ?_, I.free, I.freeC, fun p hq => ?_, fun b u e => ?_, I.len⟩
 ·exact m.keep b o (I.base.keep b o e n hb hx) (neC b o e) (nst b (neL b o e) hb)
 ·obtain ⟨sl, e1⟩ := I.base.slot b o e n hb hx
  obtain ⟨sl', e2⟩ := any b _ (neC b o e) e1
  exact ⟨sl', e2⟩
 ·obtain ⟨o', e1⟩ := I.base.there b o e hx
  obtain ⟨sl, e2⟩ := any b o' (neC b o e) e1
  exact ⟨_, e2⟩
 ·obtain ⟨mm, ⟨o, es, ep, ho, r⟩, hl⟩ := I.loc
  obtain ⟨sl, e2⟩ := any _ o (fun z => hL _ z rfl) ho
  refine ⟨mm, ⟨_, es, ep, e2, r⟩, fun i x v e1 e2 e3 => ?_⟩
  obtain ⟨u, rr, l⟩ := hl i x v e1 e2 e3
  refine ⟨u, rr, ?_⟩
  rcases l with l | ⟨k, c, e, z⟩
  ·exact .inl l
  ·exact .inr ⟨k, c, e, cellK x c e _ z⟩
 ·obtain ⟨v, z⟩ := I.cell x c e
  exact ⟨v, cellK x c e v z⟩
 ·obtain ⟨e, n, ne, nf, d⟩ := I.pin p hq
  exact ⟨m.keep p.1 p.2 e (fun z => hp _ z p hq rfl) (nst _ ne nf), n, ne, nf, d⟩
 ·refine (I.hok b u e).stay (fun c v hcv q => ?_) (fun _ q => q) fun _ _ q => q
  have z : c ∉ ch /\ c ∉ frs X.stack := by
   rcases hcv with rfl | hcv
   ·exact trk c u e
   ·exact trk c _ hcv
  exact m.keep c v q z.1 z.2
structure Apart (X : Cx) (pins : List (Addr × Obj)) (H : Hp) (b : Addr) : Prop where
 trk : H b = none
 old : X.s₀.heap.get? b = none
 loc : b ≠ X.env.locals
 cell : ∀ x c, X.env.cells.lookup x = some c -> c ≠ b
 pin : ∀ p ∈ X.pn ++ pins, p.1 ≠ b
theorem Inv.moved' {ch : List Addr} (I : Inv X pins σ H s) (m : Moved s.heap h' (frs X.stack) ch) (ha : ∀ b ∈ ch, Apart X pins H b) : Inv X pins σ H { s with heap := h' } :=
 I.moved m (fun b hb => (ha b hb).trk) (fun b hb => (ha b hb).old) (fun b hb => (ha b hb).loc) (fun b hb => (ha b hb).cell) fun b hb => (ha b hb).pin
theorem Inv.apart (I : Inv X pins σ H s) (hx : X.ex = []) {b : Addr} (e : s.heap.get? b = none) : Apart X pins H b := by
 refine ⟨I.hok.none_of e, ?_, ?_, fun x c hc z => ?_, fun p hp z => ?_⟩
 ·cases q : X.s₀.heap.get? b with
  | none => rfl
  | some o =>
   obtain ⟨o', e1⟩ := I.base.there b o q (by rw [hx]; simp)
   rw [e] at e1; cases e1
 ·rintro rfl
  obtain ⟨m, ⟨o, _, _, ho, _⟩, _⟩ := I.loc
  rw [e] at ho; cases ho
 ·obtain ⟨v, o, ho, _⟩ := I.cell x c hc
  rw [z, e] at ho; cases ho
 ·have := (I.pin p hp).1
  rw [z, e] at this; cases this
end
def CXE (P : Program) (w : World) : CXT := fun outer H s E e s' => ∃ (ea T : Addr) (cls : Value) (dx : Option Addr) (H' : Hp), e = .ref ea /\ s'.os = s.os /\ AllBare s'.gens /\ Un (frs outer) [] H H' s.heap s'.heap /\ HOk P w H' s'.heap /\
 H' ea = none /\ H' T = none /\ s.heap.get? ea = none /\ s.heap.get? T = none /\ Fly s'.heap ea T cls dx /\ E cls dx H'
theorem xb4 {P : Program} {w : World} {X : Cx} : xt8 (CXE P w) X E0 := fun _ _ _ _ _ _ _ ⟨_, _, _, _, _, _, _, _, _, _, _, _, _, _, _, f⟩ => f.elim
section
variable {P : Program} {w : World} {K : Frag} {mg : Str -> Option Value} {base : Heap} {N : List Str} {qual : Str} {scope : Scope} {f : Addr} {cd : Value} {A : Around} {outer : List Env} {s₀ : Shared} {H₀ : Hp} {E : XK}
abbrev cxE (P : Program) (w : World) (K : Frag) (mg : Str -> Option Value) (base : Heap) (N : List Str) (qual : Str) (scope : Scope) (f : Addr) (cd : Value) (A : Around) (outer : List Env) (s₀ : Shared) (H₀ : Hp) (E : XK) : Cx :=
 cxOf (CXE P w) P w K mg base N qual scope f cd A outer s₀ H₀ E
theorem yo9 {pins : List (Addr × Obj)} {σ : St} {H : Hp} {s : Shared} {ea : Addr} {cls : Value} {dx : Option Addr} (I : Inv (cxE P w K mg base N qual scope f cd A outer s₀ H₀ E) pins σ H s) (m : Made s.heap ea cls dx) (a : Apart (cxE P w K mg base N qual scope f cd A outer s₀ H₀ E) pins H ea) (e : E cls dx H) :
  (cxE P w K mg base N qual scope f cd A outer s₀ H₀ E).xe (.ref ea) s := by
 refine yn7 (base := base) (outer := outer) I.ok.frames I.stack rfl m fun h' T' fl nT mv => ?_
 have I' := I.moved' mv fun b hb => by
  rcases List.mem_cons.mp hb with rfl | hb
  ·exact a
  ·cases hb
 have aT := I.apart rfl nT
 exact ⟨ea, T', cls, dx, H, rfl, I'.os, I'.bare, I'.base, I'.hok, a.trk, aT.trk, a.old, aT.old, fl, e⟩
theorem yi3 : xt8 (CXE P w) (cxE P w K mg base N qual scope f cd A outer s₀ H₀ E) E := by
 intro pins σ H s e s' I h
 obtain ⟨ea, T, cls, dx, H', rfl, h1, h2, h3, h4, h5, h6, h7, h8, h9, h10⟩ := h
 have a1 := I.apart rfl h7
 have a2 := I.apart rfl h8
 have I' := I.call' h1 h3 h4 h2 (by intro b hb; cases hb)
 refine leave_on (base := base) (outer := outer) I'.ok.frames I'.stack rfl h9 fun h' T' fl nT mv => ?_
 have I2 := I'.moved' mv fun b hb => by
  rcases List.mem_cons.mp hb with rfl | hb
  ·exact ⟨h5, a1.old, a1.loc, a1.cell, a1.pin⟩
  ·rcases List.mem_cons.mp hb with rfl | hb
   ·exact ⟨h6, a2.old, a2.loc, a2.cell, a2.pin⟩
   ·cases hb
 have aT := I'.apart rfl nT
 exact ⟨ea, T', cls, dx, H', rfl, I2.os, I2.bare, I2.base, I2.hok, h5, aT.trk, a1.old, aT.old, fl, h10⟩
end
abbrev xn3 : List Value := [.type "ValueError", .type "Exception", .type "BaseException", .type "object"]
abbrev ExcC (K : Frag) (C : Addr) : Prop := excIn K C xn3 "ValueError.__new__" = true
theorem exc_of {K : Frag} {g : Heap} {C : Addr} (kin : K.In g) (isx : ExcC K C) : ∃ nm qn N bs bm hdct sn sub ab col dd k0 k1 k2 k3 k5 mN, g.get? C = some (excClassObj nm qn C N bs bm hdct sn sub ab col dd k0 k1 k2 k3 k5 "ValueError.__new__") /\
  g.Ns N mN /\ mN "__init__" = none /\ OwnTail g xn3 bm := by
 unfold ExcC excIn at isx
 split at isx
 next dct cdat slo look =>
  split at isx
  next C2 tail s0 s1 s2 s3 made s5 mro slots =>
   simp only [Bool.and_eq_true, beq_iff_eq, Bool.not_eq_true'] at isx
   obtain ⟨⟨⟨⟨⟨e1, e2⟩, e3⟩, e4⟩, e5⟩, e6⟩ := isx
   cases cdat with
   | mk z1 z2 z3 z4 z5 z6 z7 z8 z9 z10 z11 =>
    dsimp only at mro e3 e5 e6
    subst e1 e2 mro e3
    cases slo with
    | mk lst =>
     dsimp only at slots
     subst slots
     exact ⟨_, _, _, _, _, _, _, _, _, _, _, _, _, _, _, _, _, kin _ _ look, .of_isNs (isNs_of_in kin e5), nsMap_none_of_in kin e5 e6, tail_of_in kin e4⟩
  next => cases isx
 next => cases isx
def tRaise (E : XK) (C : Addr) (t : TA) : TS := fun _ σ H => t σ H fun vs H1 => vs.length <= 1000 /\ E (.ref C) none H1
section
variable {P : Program} {w : World} {K : Frag} {mg : Str -> Option Value} {base : Heap} {N : List Str} {qual : Str} {scope : Scope} {f : Addr} {cd : Value} {A : Around} {outer : List Env} {s₀ : Shared} {H₀ : Hp} {E : XK}
theorem xo5 {x : Str} {e : Expr} {es : List Expr} {t : TA} {C : Addr} {np cpos pos : Pos} (isx : ExcC K C) (hg : Gl (cxE P w K mg base N qual scope f cd A outer s₀ H₀ E) x) (hm : mg x = some (.ref C)) (ha : PA (cxE P w K mg base N qual scope f cd A outer s₀ H₀ E) (e :: es) t)
  (hdb : (x == ("__debug__" : Str)) = false := by decide) (he : starEach (e :: es) (cxE P w K mg base N qual scope f cd A outer s₀ H₀ E).env = (false, eval e (cxE P w K mg base N qual scope f cd A outer s₀ H₀ E).env) :: starEach es (cxE P w K mg base N qual scope f cd A outer s₀ H₀ E).env := by rfl)
  (hpl : (backTo cpos (starEach (e :: es) (cxE P w K mg base N qual scope f cd A outer s₀ H₀ E).env)).any (·.1) = false := by rfl) :
  PS (cxE P w K mg base N qual scope f cd A outer s₀ H₀ E) (.Raise (some (.Call (.Name x np) (e :: es) [] cpos)) none pos) (tRaise E C t) := by
 intro pins s σ H D I h
 obtain ⟨nm, qn, NN, bs, bm, hdct, sn, sub, ab, col, dd, k0, k1, k2, k3, k5, mN, c1, c2, c3, c4⟩ := exc_of I.mod.kin isx
 refine wpAny_Raise_call_subT (C := C) (nm := nm) (q := qn) (N := NN) (bs := bs) (bm := bm) (hdct := hdct) (sn := sn) (sub := sub) (ab := ab) (col := col) (dd := dd) (k0 := k0) (k1 := k1) (k2 := k2) (k3 := k3) (k5 := k5) PySem.F.excBase_ValueError (c4.hasType PySem.F.excBase_ValueError.hasBase) (I.ok.hd rfl) hpl c3 ?_
 refine xm8 I hg hm ⟨rfl, ?_⟩ hdb
 have q := ha cpos pins s σ H _ I h
 rw [he] at q ⊢
 refine PySem.Calls.evalArgs_plain (thn q fun us s1 ⟨vs, H1, I1, r, q1⟩ => ?_)
 refine ⟨rfl, by rw [<- r.length]; exact xd7 q1.1, I1.bk _ _ c1, c2.keeps I1.bk, c4.keeps I1.bk, fun h' ea md => ?_⟩
 have I2 : Inv _ pins σ H1 { s1 with heap := h' } := I1.kept (t' := s1.toks) md.keeps
 obtain ⟨tp, e1, _, _⟩ := md.there
 refine yo9 (cls := .ref C) (dx := none) I2 ⟨_, _, _, e1, rfl, rfl, rfl, rfl, rfl⟩ ?_ q1.2
 have a := I1.apart rfl md.new
 exact ⟨a.trk, a.old, a.loc, a.cell, a.pin⟩
theorem Fun.okE {x : Str} {st : Stmt} {fd : FuncData} {N ps : List Str} {k : Nat} {sp : Sp} (F : Fun K x qual st f fd) (S : FnScope N ps (xa4 st)) (len : ∀ vs H Q E, sp vs H Q E -> vs.length = ps.length)
  (hbody : ∀ (cdv : Value) (A : Around) (outer : List Env) (s : Shared) (H : Hp) (vs : List V) (Q : VK) (E : XK), Room k (A.deeper (envOfC qual (xa4 st) s.heap.objs.size f cdv)) -> sp vs H Q E ->
   ∃ t, PSs (cxE P w K mg base N qual (xa4 st) f cdv A outer s H E) (xa9 st) t /\ t { nx := fun _ H' => Q .non H', rt := Q } (start N vs) H) : FnOk P w K mg base (CXE P w) (k + 1) f fd ps sp := by
 obtain ⟨oc, od, kV, doc, pm, an, cdv, ct, osl, rfl, lk, hcd⟩ := F.ex
 exact fn_of lk hcd S len fun A outer s H vs Q E hr hsp => hbody cdv A outer s H vs Q E hr hsp
theorem Fun.okN {x : Str} {st : Stmt} {fd : FuncData} {N ps : List Str} {k : Nat} {sp : Sp} (F : Fun K x qual st f fd) (S : FnScope N ps (xa4 st)) (len : ∀ vs H Q E, sp vs H Q E -> vs.length = ps.length)
  (hbody : ∀ (cdv : Value) (A : Around) (outer : List Env) (s : Shared) (H : Hp) (vs : List V) (Q : VK) (E : XK), Room k (A.deeper (envOfC qual (xa4 st) s.heap.objs.size f cdv)) -> sp vs H Q E ->
   ∃ t, PSs (cxE P w K mg base N qual (xa4 st) f cdv A outer s H E).nox (xa9 st) t /\ t { nx := fun _ H' => Q .non H', rt := Q } (start N vs) H) : FnOk P w K mg base (CXE P w) (k + 1) f fd ps sp :=
 F.okE S len fun cdv A outer s H vs Q E hr hsp => let ⟨t, h, q⟩ := hbody cdv A outer s H vs Q E hr hsp; ⟨t, h.nox, q⟩
theorem FunD.okE {x : Str} {st : Stmt} {dV : Value} {fd : FuncData} {N ps : List Str} {k : Nat} {sp : Sp} (F : FunD K x qual st dV f fd) (S : FnScope N ps (xa4 st)) (len : ∀ vs H Q E, sp vs H Q E -> vs.length = ps.length)
  (hbody : ∀ (cdv : Value) (A : Around) (outer : List Env) (s : Shared) (H : Hp) (vs : List V) (Q : VK) (E : XK), Room k (A.deeper (envOfC qual (xa4 st) s.heap.objs.size f cdv)) -> sp vs H Q E ->
   ∃ t, PSs (cxE P w K mg base N qual (xa4 st) f cdv A outer s H E) (xa9 st) t /\ t { nx := fun _ H' => Q .non H', rt := Q } (start N vs) H) : FnOk P w K mg base (CXE P w) (k + 1) f fd ps sp := by
 obtain ⟨oc, od, kV, doc, pm, an, cdv, ct, osl, rfl, lk, hcd⟩ := F.ex
 exact fn_of lk hcd S len fun A outer s H vs Q E hr hsp => hbody cdv A outer s H vs Q E hr hsp
theorem FunD.okN {x : Str} {st : Stmt} {dV : Value} {fd : FuncData} {N ps : List Str} {k : Nat} {sp : Sp} (F : FunD K x qual st dV f fd) (S : FnScope N ps (xa4 st)) (len : ∀ vs H Q E, sp vs H Q E -> vs.length = ps.length)
  (hbody : ∀ (cdv : Value) (A : Around) (outer : List Env) (s : Shared) (H : Hp) (vs : List V) (Q : VK) (E : XK), Room k (A.deeper (envOfC qual (xa4 st) s.heap.objs.size f cdv)) -> sp vs H Q E ->
   ∃ t, PSs (cxE P w K mg base N qual (xa4 st) f cdv A outer s H E).nox (xa9 st) t /\ t { nx := fun _ H' => Q .non H', rt := Q } (start N vs) H) : FnOk P w K mg base (CXE P w) (k + 1) f fd ps sp :=
 F.okE S len fun cdv A outer s H vs Q E hr hsp => let ⟨t, h, q⟩ := hbody cdv A outer s H vs Q E hr hsp; ⟨t, h.nox, q⟩
end
def XP (X : Cx) (pins : List (Addr × Obj)) (σ : St) (E : XK) (e : Value) (s' : Shared) : Prop := ∃ ea T cls dx H', e = .ref ea /\ Inv X pins σ H' s' /\ Apart X pins H' ea /\ Apart X pins H' T /\ Fly s'.heap ea T cls dx /\ E cls dx H'
def PX (X : Cx) (e : Expr) (t : XK -> TE) : Prop :=
 ∀ (pins : List (Addr × Obj)) (s : Shared) (σ : St) (H : Hp) (Q : VK) (E : XK), Inv X pins σ H s -> t E σ H Q -> wpAny (model X.prog X.w) X.A (eval e X.env) (EP X pins σ Q) (XP X pins σ E) s
def PB (X : Cx) (sts : List Stmt) (t : XK -> TS) : Prop :=
 ∀ (pins : List (Addr × Obj)) (s : Shared) (σ : St) (H : Hp) (D : Ends) (E : XK), Inv X pins σ H s -> t E D σ H -> wpAny (model X.prog X.w) X.A (execs sts X.env) (SP X pins D) (XP X pins σ E) s
section
variable {X : Cx} {k : Nat} {f C : Addr} {fd : FuncData} {ps : List Str} {sp : Sp} {dvs : List V} {ds : List Value} {x m : Str} {p pos apos : Pos} {e o : Expr} {es : List Expr} {ta : TE} {t : TA}
theorem xp_of (hx : X.ex = []) {pins : List (Addr × Obj)} {σ : St} {H : Hp} {s s' : Shared} {E : XK} {ev : Value} (I : Inv X pins σ H s) (h : CXE X.prog X.w X.stack H s E ev s') : XP X pins σ E ev s' := by
 obtain ⟨ea, T, cls, dx, H', rfl, h1, h2, h3, h4, h5, h6, h7, h8, h9, h10⟩ := h
 have a1 := I.apart hx h7
 have a2 := I.apart hx h8
 exact ⟨ea, T, cls, dx, H', rfl, I.call' h1 h3 h4 h2 (by intro b hb; cases hb), ⟨h5, a1.old, a1.loc, a1.cell, a1.pin⟩, ⟨h6, a2.old, a2.loc, a2.cell, a2.pin⟩, h9, h10⟩
theorem run_fnX (hx : X.ex = []) {pins : List (Addr × Obj)} {σ : St} {H : Hp} {s : Shared} {Q : VK} {E : XK} {us : List Value} {vs : List V} (F : FnOk X.prog X.w X.K X.mg X.base (CXE X.prog X.w) k f fd ps sp) (hr : Room k X.A) (hb : xc5 X.K fd ps ds) (hd : Vals dvs ds)
  (I : Inv X pins σ H s) (r : Vals vs us) (h : sp (vs ++ dvs) H Q E) : wpAny (model X.prog X.w) X.A (call (.ref f) us) (EP X pins σ Q) (XP X pins σ E) s := by
 have r2 : Vals (vs ++ dvs) (us ++ ds) := r.append hd
 have hl : (us ++ ds).length = ps.length := by rw [<- r2.length]; exact F.len _ _ _ _ h
 refine wpAny_call (codeAny_mono (F.run X.A X.stack s H ⟨us, []⟩ (us ++ ds) (vs ++ dvs) Q E hr I.env0 (hb s us I.kIn hl) r2 h) fun rr s' hq => ?_)
 cases rr with
 | error ev => exact xp_of hx I hq
 | ok fl =>
  cases fl with
  | ret u => exact I.after hq
  | next => exact False.elim hq
  | brk => exact False.elim hq
  | cont => exact False.elim hq
theorem yy8 (hx : X.ex = []) (F : FnOk X.prog X.w X.K X.mg X.base (CXE X.prog X.w) k f fd ps sp) (hr : Room k X.A) (hg : Gl X x) (hm : X.mg x = some (.ref f)) (hk : keepIn X.K (.ref f) = true) (hb : xc5 X.K fd ps ds) (hd : Vals dvs ds)
  (ha : ∀ E, PA (X.wish E) (e :: es) t) (hdb : (x == ("__debug__" : Str)) = false := by decide) (he : starEach (e :: es) X.env = (false, eval e X.env) :: starEach es X.env := by rfl) (hpl : (backTo pos (starEach es X.env)).any (·.1) = false := by rfl) :
  PX X (.Call (.Name x p) (e :: es) [] pos) (fun E => tCall sp dvs E t) := by
 intro pins s σ H Q E I h
 refine wpAny_Call_Name_kw (xm8 I hg hm ?_ hdb)
 refine callWith_K (h₀ := X.base) I.ok.mod.kin hk (thn (ha (XP X pins σ E) pos pins s σ H _ (I.wish _) h) fun us s1 ⟨vs, H1, I1, r, q⟩ => ⟨I1.unwish.kIn, ?_⟩) he hpl
 exact run_fnX hx F hr hb hd I1.unwish r q
theorem za4 {te : XK -> TE} (h : PX X e te) (hs : swapsWith e none pos.line X.env = pure false := by rfl) : PB X [.Expr e pos] (fun E => tDrop (te E)) := by
 intro pins s σ H D E I hw
 refine wpAny_execs_cons (wpAny_Expr_any (thn (h pins s σ H _ E I hw) fun v s1 ⟨y, H1, I1, r1, q1⟩ => ?_) I.quiet hs)
 exact wpAny_execs_nil ⟨σ, H1, I1, q1⟩
end
abbrev Cx.hand (X : Cx) (ea : Addr) : Cx := { X with A := X.A.mark (some (.ref ea)), calm := false, xe := fun _ _ => False }
theorem Cx.Ok.hand {X : Cx} (ok : X.Ok) (ea : Addr) : (X.hand ea).Ok :=
 ⟨ok.mod, ok.kind, ok.glob, ok.blt, ok.above, ok.inj, ok.has, ok.cab, (fun z => by cases z), ok.frames, ok.stk, ok.exf, ok.bs, ok.bsz, ok.noex, ok.exfs, ok.funs, ok.frf⟩
theorem Cx.Ok.unhand {X : Cx} {ea : Addr} (ok0 : X.Ok) (ok : (X.hand ea).Ok) : X.Ok := ok0
section
variable {X : Cx} {pins : List (Addr × Obj)} {σ : St} {H : Hp} {s : Shared} {ea : Addr}
theorem Inv.hand (I : Inv X pins σ H s) (ea : Addr) : Inv (X.hand ea) pins σ H s := ⟨I.ok.hand ea, I.os, I.bare, I.base, I.loc, I.cell, I.free, I.freeC, I.pin, I.hok, I.len⟩
theorem Inv.unhand (ok : X.Ok) (I : Inv (X.hand ea) pins σ H s) : Inv X pins σ H s := ⟨ok, I.os, I.bare, I.base, I.loc, I.cell, I.free, I.freeC, I.pin, I.hok, I.len⟩
def yv6 (ea : Addr) (cls : Value) (dx : Option Addr) : HO := .ext fun h => ∃ oe vs, h.get? ea = some oe /\ oe.cls = cls /\ oe.dict = dx /\ oe.data = .fields vs
theorem Inv.track {cls : Value} {dx : Option Addr} (I : Inv X pins σ H s) (a : Apart X pins H ea) (hx : ∃ oe vs, s.heap.get? ea = some oe /\ oe.cls = cls /\ oe.dict = dx /\ oe.data = .fields vs) : Inv X pins σ (upd H ea (yv6 ea cls dx)) s := by
 have ne : ∀ b o, X.s₀.heap.get? b = some o -> b ≠ ea := fun b o e z => by rw [z, a.old] at e; cases e
 have nt : ∀ b o, H b = some o -> b ≠ ea := fun b o e => xa7 e a.trk
 refine ⟨I.ok, I.os, I.bare, ⟨I.base.keep, I.base.slot, fun b o e n hx => ?_, I.base.there, fun b xs e => ?_, fun b o xs e => ?_, fun b ps e => ?_⟩, I.loc, I.cell, ?_, fun x c e => ?_, fun p hp => ?_, fun b u e => ?_, I.len⟩
 ·rw [xa3 (ne b o e)]; exact I.base.free b o e n hx
 ·have q := I.base.tups b xs e
  rw [xa3 (nt b _ q)]; exact q
 ·have q := I.base.frzs b o xs e
  rw [xa3 (nt b _ q)]; exact q
 ·obtain ⟨mm, q⟩ := I.base.tbls b ps e
  exact ⟨mm, by rw [xa3 (nt b _ q)]; exact q⟩
 ·rw [xa3 (Ne.symm a.loc)]; exact I.free
 ·rw [xa3 (a.cell x c e)]; exact I.freeC x c e
 ·obtain ⟨q1, q2, q3⟩ := I.pin p hp
  exact ⟨q1, by rw [xa3 (a.pin p hp)]; exact q2, q3⟩
 ·by_cases hb : b = ea
  ·subst hb
   rw [xa1] at e
   cases e
   obtain ⟨oe, vs, q1, q2, q3⟩ := hx
   exact ⟨⟨oe, vs, q1, q2, q3⟩, ⟨oe, q1⟩, fun h1 h2 ⟨o1, v1, z1, z2⟩ k => ⟨o1, v1, k _ z1, z2⟩⟩
  ·rw [xa3 hb] at e
   exact (I.hok b u e).stay (fun _ _ _ q => q) (fun c q => by rw [xa3 (nt c _ q)]; exact q) fun c xs q => by rw [xa3 (nt c _ q)]; exact q
theorem xr4 {M : Model} {A : Around} {E : Value -> Shared -> Prop} {i : Nat} {n : Str} {pos : Pos} {Q : Unit -> Shared -> Prop} (I : Inv X pins σ H s) (hN : X.N.Nodup) (hi : X.N[i]? = some n) (hl : X.env.scope.names.lookup n = some .local)
  (h : ∀ s', Inv X pins (σ.set i none) H s' -> Q () s') : wpAny M A (do bindName X.env n .none; unbindBehindTheSuite X.env n pos) Q E s := by
 obtain ⟨m, hn, hloc⟩ := I.loc
 refine wpAny_nameGoes_keeps hl hn (by rw [I.ok.kind]; rfl) fun h' v hn' hs => h _ ?_
 have keep : ∀ b o, b ≠ X.env.locals -> s.heap.get? b = some o -> h'.get? b = some o := fun b o ne e => (hs.2 b ne).trans e
 have neL : ∀ b o, X.s₀.heap.get? b = some o -> b ≠ X.env.locals := fun b o e => Nat.ne_of_lt (Nat.lt_of_lt_of_le (Heap.lt_size e) I.ok.above)
 have lL : ∃ o, h'.get? X.env.locals = some o := by obtain ⟨o, _, _, ho, _⟩ := hn'; exact ⟨o, ho⟩
 refine ⟨I.ok, I.os, I.bare, ⟨fun b o e n1 hb hx => keep b o (neL b o e) (I.base.keep b o e n1 hb hx), fun b o e n1 hb hx => ?_, I.base.free, fun b o e hx => ?_, I.base.tups, I.base.frzs, I.base.tbls⟩, ⟨_, hn', fun j y v' e1 e2 e3 => ?_⟩, fun x c e => ?_, I.free, I.freeC, fun p hp => ?_, fun b u e => ?_, by rw [List.length_set]; exact I.len⟩
 ·obtain ⟨sl, q⟩ := I.base.slot b o e n1 hb hx
  exact ⟨sl, keep b _ (neL b o e) q⟩
 ·obtain ⟨o', q⟩ := I.base.there b o e hx
  exact ⟨o', keep b _ (neL b o e) q⟩
 ·have hj : j ≠ i := fun z => by
   subst z
   by_cases hlt : j < σ.length
   ·rw [List.getElem?_set_self hlt] at e2; cases e2
   ·rw [List.getElem?_eq_none (by rw [List.length_set]; omega)] at e2; cases e2
  rw [List.getElem?_set_ne (Ne.symm hj)] at e2
  obtain ⟨u, r, q⟩ := hloc j y v' e1 e2 e3
  refine ⟨u, r, ?_⟩
  rcases q with ⟨k, e⟩ | ⟨k, c, e, z⟩
  ·have ny : y ≠ n := fun z => hj (ye5 hN e1 (z ▸ hi))
   exact .inl ⟨k, by simp [ny, e]⟩
  ·exact .inr ⟨k, c, e, z.sameBut hs (I.cne y c e)⟩
 ·obtain ⟨v', z⟩ := I.cell x c e
  exact ⟨v', z.sameBut hs (I.cne x c e)⟩
 ·obtain ⟨q1, q2, q3, q4⟩ := I.pin p hp
  exact ⟨keep _ _ q3 q1, q2, q3, q4⟩
 ·have nL : ∀ c v, H c = some v -> c ≠ X.env.locals := fun c v q => xa7 q I.free
  refine (I.hok b u e).stay (fun c v hc q => keep c v ?_ q) (fun _ q => q) fun _ _ q => q
  rcases hc with rfl | hc
  ·exact nL c u e
  ·exact nL c _ hc
end
def zd7 (i : Nat) (D : Ends) : Ends := { nx := fun σ H => D.nx (σ.set i none) H, rt := D.rt, bk := fun σ H => D.bk (σ.set i none) H, ct := fun σ H => D.ct (σ.set i none) H }
def tTry (K : Frag) (c : Value) (i : Nat) (tb : XK -> TS) (ts : TS) : TS := fun D σ H =>
 tb (fun cls dx H' => exmOne K cls c = some true /\ ∀ ea, H' ea = none -> ts (zd7 i D) (σ.set i (some (.ref ea))) (upd H' ea (yv6 ea cls dx))) D σ H
theorem ps_try {X : Cx} {body : List Stmt} {tb : XK -> TS} {ts : TS} {cn n : Str} {C : Addr} {i : Nat} {b0 : Stmt} {suite : List Stmt} {np hpos pos : Pos} (K : Frag) (hx : X.ex = []) (hst : X.stack = X.env :: X.outer) (hfr : X.env.frame = some X.env.locals) (hb : PB X body tb)
  (hg : Gl X cn) (hm : X.mg cn = some (.ref C)) (hN : X.N.Nodup) (hi : X.N[i]? = some n) (hl : X.env.scope.names.lookup n = some .local) (hs : ∀ ea, PSs (X.hand ea) (b0 :: suite) ts) (hK : X.K = K := by rfl) (hdb : (cn == ("__debug__" : Str)) = false := by decide) :
  PS X (.Try body [.ExceptHandler (some (.Name cn np)) (some n) (b0 :: suite) hpos] [] [] pos) (tTry K (.ref C) i tb ts) := by
 subst hK
 intro pins s σ H D I h
 refine wpAny_Try_except (wpAny_mono (hb pins s σ H D _ I h) (fun fl s1 q => ?_) fun ev s1 z => ?_)
 ·cases fl with
  | next =>
   obtain ⟨σ', H', I', q⟩ := q
   exact wpAny_execs_nil ⟨σ', H', I', q⟩
  | ret v => exact q
  | brk => exact q
  | cont => exact q
 obtain ⟨ea, T, cls, dx, H1, rfl, I1, a1, a2, fly, hcl, hsu⟩ := z
 have stk : ∀ {s : Shared} {σ : St} {H : Hp}, Inv X pins σ H s -> s.heap.FunFrames X.base (X.env :: X.outer) := fun {s σ H} I => by have := I.stack; rw [hst] at this; exact this
 have two : ∀ {T : Addr}, Apart X pins H1 T -> ∀ b ∈ [ea, T], Apart X pins H1 b := fun {T} aT b hb => by
  rcases List.mem_cons.mp hb with rfl | hb
  ·exact a1
  ·rcases List.mem_cons.mp hb with rfl | hb
   ·exact aT
   ·cases hb
 refine zb4 (base := X.base) (outer := X.outer) (by rw [I1.ok.frames, hst]) (stk I1) hfr fly fun h2 T2 fly2 nT2 mv2 => ?_
 rw [<- hst] at mv2
 have I2 := I1.moved' mv2 (two a2)
 have aT2 : Apart X pins H1 T2 := I1.apart hx nT2
 obtain ⟨oe, vs, oT, tvs, a0, e1, e2, e3, e4, _⟩ := id fly2
 have LT : PySem.W.Looks (model X.prog X.w) ({ s1 with heap := h2 } : Shared).heap (typeOf (.ref ea)) cls := by
  subst e2
  exact (PySem.W.Looks.ld e1).andThen .now
 refine wpAny_handleBy_cons (codeAny_handlers_test ?_) (by intro q; cases q)
 refine xm8 (X := X.hand ea) (I2.hand ea) hg hm ?_ hdb
 refine (exm_one I2.kIn LT hcl).here ?_
 refine codeAny_handlers_suite_as ?_
 refine xs9 (s := { s1 with heap := h2 }) fly2 fun h3 fly3 same => ?_
 have I3 := I2.moved' (Moved.one same) fun b hb => by rw [List.mem_singleton] at hb; rw [hb]; exact aT2
 obtain ⟨oe3, vs3, _, _, _, f1, f2, f3, f4, _⟩ := id fly3
 have I4 := I3.track a1 ⟨oe3, vs3, f1, f2, f3, f4⟩
 refine yd3 (X := X.hand ea) (v := .ref ea) (I4.hand ea) hN hi (.inl hl) rfl (fun s5 I5 => ?_) (.inr hl)
 refine wpAny_mono (hs ea pins s5 _ _ (zd7 i D) I5 (hsu ea a1.trk)) (fun fl s6 q => ?_) fun _ _ z => z.elim
 have okX := I.ok
 cases fl with
 | next =>
  obtain ⟨σ', H', I', q⟩ := q
  exact xr4 (I'.unhand okX) hN hi hl fun s7 I7 => ⟨_, H', I7, q⟩
 | brk =>
  obtain ⟨σ', H', I', q⟩ := q
  exact xr4 (I'.unhand okX) hN hi hl fun s7 I7 => ⟨_, H', I7, q⟩
 | cont =>
  obtain ⟨σ', H', I', q⟩ := q
  exact xr4 (I'.unhand okX) hN hi hl fun s7 I7 => ⟨_, H', I7, q⟩
 | ret u =>
  obtain ⟨v, σ', H', I', r, q⟩ := q
  exact xr4 (I'.unhand okX) hN hi hl fun s7 I7 => ⟨v, _, H', I7, r, q⟩
structure XCls (K : Frag) (C : Addr) : Prop where
 ga : findIn K (.ref C) "__getattribute__" = some (some (.builtin "BaseException.__getattribute__"))
 gt : findIn K (.ref C) "__getattr__" = some none
 ic : (clsIn K C).isSome = true
 kc : findIn K (.ref C) "__class__" = some (some (.builtin "object.__class__"))
 kg : specialIn K (.builtin "object.__class__") "__get__" = some (some (.builtin "getset_descriptor.__get__"))
 kt : takesIn K (.builtin "object.__class__") = some true
 mo : mroIn K C (.type "object") = some true
 mb : mroIn K C (.type "BaseException") = some true
section
variable {prog : Program} {w : World} {A : Around} {E : Value -> Shared -> Prop} {s : Shared} {K : Frag} {ea C : Addr} {oe : Obj} {od : Option Obj}
theorem xcheck (kin : K.In s.heap) (c : XCls K C) (I : InstAt s.heap ea oe C od) {nameV : Value} {Q : Unit -> Shared -> Prop} (h : Q () s) : wpAny (model prog w) A (checkBuiltinCall "BaseException.__getattribute__" ⟨[.ref ea, nameV], []⟩) Q E s := by
 obtain ⟨g, g2, g3, g4, g5⟩ := s
 have kd : builtinKind "BaseException.__getattribute__" = some .slot := by decide +kernel
 have sp : splitId "BaseException.__getattribute__" = some ("BaseException", "__getattribute__") := by decide +kernel
 have L0 := I.type (M := model prog w)
 have L1 := looks_mroIn (M := model prog w) kin c.mb
 have aok := F.args_bexc_ga (.ref ea) nameV
 simp only [checkBuiltinCall, kd, sp]
 refine wpAny_bind ?_
 unfold isInstance
 refine wpAny_bind (L0.at (L1.at ?_))
 repeat (first | exact h | wp_step)
theorem yr7 (kin : K.In s.heap) (c : XCls K C) (I : InstAt s.heap ea oe C od) {name : Str} {tk : Tok} {g a : Value} (hf : findObj K C od name = some (.bind g a)) {P : Value -> Shared -> Prop}
  (h : wpAny (model prog w) A.in1 (call g [a, .ref ea, .ref C]) P E s) : wpAny (model prog w) A (call (.builtin "BaseException.__getattribute__") [.ref ea, .str name tk]) P E s := by
 obtain ⟨h1, h2, h3, h4, h5⟩ := s
 have L0 := I.type (M := model prog w)
 have L1 := looks_find (M := model prog w) kin I hf
 refine wpAny_call (codeAny_call_builtin PySem.F.attr_ValueError.ga.plain F.entry_bexc_ga (xcheck kin c I ?_))
 refine wpAny_bind (wpAny_pure (wpAny_bind (wpAny_pure (wpAny_bind (L0.at (wpAny_bind (L1.at ?_)))))))
 show wpAny _ _ (holding [a] (call g [a, .ref ea, .ref C]) >>= ret) _ _ _
 exact wpAny_bind (wpAny_holding (wpAny_mono h (fun v s' z => wpAny_pure z) fun _ _ z => z))
theorem xu8 (kin : K.In s.heap) (c : XCls K C) (I : InstAt s.heap ea oe C od) {name : Str} {tk : Tok} {v : Value} (hf : findObj K C od name = some (.value v)) {P : Value -> Shared -> Prop}
  (h : P v s) : wpAny (model prog w) A (call (.builtin "BaseException.__getattribute__") [.ref ea, .str name tk]) P E s := by
 obtain ⟨h1, h2, h3, h4, h5⟩ := s
 have L0 := I.type (M := model prog w)
 have L1 := looks_find (M := model prog w) kin I hf
 refine wpAny_call (codeAny_call_builtin PySem.F.attr_ValueError.ga.plain F.entry_bexc_ga (xcheck kin c I ?_))
 refine wpAny_bind (wpAny_pure (wpAny_bind (wpAny_pure (wpAny_bind (L0.at (wpAny_bind (L1.at ?_)))))))
 exact wpAny_pure h
theorem xget (kin : K.In s.heap) (c : XCls K C) (I : InstAt s.heap ea oe C od) {nameV : Value} {fill expr : Bool} {Q : Value -> Shared -> Prop} {P : Value -> Shared -> Prop}
  (h : wpAny (model prog w) A (call (.builtin "BaseException.__getattribute__") [.ref ea, nameV]) P (fun _ _ => False) s) (hq : ∀ v s', P v s' -> wpAny (model prog w) A (handedOut v) Q E s') : wpAny (model prog w) A (getAttrBy (.ref ea) nameV fill expr) Q E s := by
 obtain ⟨h1, h2, h3, h4, h5⟩ := s
 have L0 := I.type (M := model prog w)
 have L1 := looks_findIn (M := model prog w) kin c.ga
 have L2 := looks_findIn (M := model prog w) kin c.gt
 unfold getAttrBy
 refine wpAny_holding (wpAny_bind (L0.at (wpAny_bind (L1.at ?_))))
 dsimp only
 have ne : (Value.builtin "BaseException.__getattribute__" == Value.builtin "object.__getattribute__") = false := by decide +kernel
 rw [ne, Bool.and_false, if_neg Bool.false_ne_true]
 unfold getAttrByItsOwn hookBefore
 refine wpAny_bind ?_
 rw [if_pos (show onTheHeap (.ref C) = true from rfl)]
 refine L2.at (wpAny_bind (wpAny_attempt (wpAny_holding ?_)))
 unfold callGetattribute
 rw [if_neg (by cases expr <;> decide)]
 unfold boundAndCalled
 rw [PySem.F.attr_ValueError.ga.bind (.ref ea)]
 refine wpAny_bind (wpAny_pure ?_)
 exact wpAny_mono h (fun v s' z => hq v s' z) fun _ _ z => z.elim
theorem xclass (kin : K.In s.heap) (c : XCls K C) (I : InstAt s.heap ea oe C od) {Q : Option Value -> Shared -> Prop} (h : Q (some (.ref C)) { s with toks := s.toks + 1 }) : wpAny (model prog w) A (getAttr? (.ref ea) "__class__") Q E s := by
 obtain ⟨cd, hcd⟩ := Option.isSome_iff_exists.mp c.ic
 have hf : findObj K C od "__class__" = some (.bind (.builtin "getset_descriptor.__get__") (.builtin "object.__class__")) := by
  unfold findObj
  rw [hcd, Option.bind_some, c.kc, Option.bind_some]
  simp [c.kg, c.kt]
 unfold getAttr? getAttrBy?
 refine wpAny_bind (wpAny_mkText (wpAny_bind (wpAny_attempt ?_)))
 refine xget (s := { s with toks := s.toks + 1 }) (P := fun v s' => v = .ref C /\ s' = { s with toks := s.toks + 1 }) kin c I ?_ ?_
 ·refine yr7 (s := { s with toks := s.toks + 1 }) kin c I hf (wpAny_call ?_)
  exact class_get (s := { s with toks := s.toks + 1 }) (ox := oe) (od := od) kin I c.mo ⟨rfl, rfl⟩
 ·rintro v s' ⟨rfl, rfl⟩
  exact handed_on rfl (wpAny_pure h)
theorem yq4 (c : XCls K C) : KitX K (.ref ea) (.ref C) (fun h => InstAt h ea oe C od) where
 ty := fun _ _ _ I => I.type
 it := fun M g kin _ => by
  obtain ⟨cd, hcd⟩ := Option.isSome_iff_exists.mp c.ic
  unfold clsIn at hcd
  split at hcd
  next look =>
   intro A1 Q1 E1 s1 k1 q1
   unfold isType loadHead
   exact wpAny_bind (wpAny_loadPart (k1 _ _ (kin _ _ look)) (wpAny_pure q1))
  next => cases hcd
 ne := fun g tp dd its n sl kin htp => by
  obtain ⟨cd, hcd⟩ := Option.isSome_iff_exists.mp c.ic
  refine Bool.eq_false_iff.mpr fun z => ?_
  obtain rfl : C = tp := Value.ref.inj (beq_iff_eq.mp z)
  unfold clsIn at hcd
  split at hcd
  next look =>
   have z2 := (kin _ _ look).symm.trans htp
   cases z2
  next => cases hcd
 ca := fun kin I q => xclass kin c I q
end
theorem ic_of {K : Frag} {C : Addr} {v : Value} {b : Bool} (h : mroIn K C v = some b) : (clsIn K C).isSome = true := by
 unfold mroIn at h
 cases e : clsIn K C with
 | none => rw [e] at h; cases h
 | some c => rfl
section
variable {X : Cx}
theorem xr9 (K : Frag) (hK : X.K = K := by rfl) : xi1 X (.builtin "isinstance") (fun xs H Q => ∃ (ea C : Addr) (c : V) (u : Value) (b : Bool), xs = [.ref ea, c] /\ H ea = some (yv6 ea (.ref C) none) /\ XCls K C /\ RelV c u /\ (∀ u', RelV c u' -> u' = u) /\ kitOne K (.ref C) u = some b /\ Q (.bl b) H) := by
 subst hK
 intro pins s σ H xs us Q I r h
 obtain ⟨ea, C, c, u, b, rfl, hx, hc, hu, hu2, hk, q⟩ := h
 obtain ⟨u1, u2, rfl, r1, r2⟩ := yr8 r
 cases r1
 cases hu2 _ r2
 obtain ⟨⟨oe, vs, e1, e2, e3, e4⟩, _, _⟩ := I.hok _ _ hx
 refine kia_one (yq4 (oe := oe) (od := none) hc) I.kIn ⟨e1, e2, ?_, ?_⟩ hk (fun z => nomatch z) fun tk => ⟨.bl b, H, I.tok tk, rfl, q⟩
 ·cases oe with
  | mk a1 a2 a3 a4 => dsimp only at e4; subst e4; rfl
 ·rw [e3]; trivial
end
def Its (x : Str) : It := ⟨fun i _ => i < x.cps.size, fun i H v H' => H' = H /\ ∃ c, x.cps[i]? = some c /\ v = .str ⟨#[c]⟩, fun i _ => x.cps.size <= i⟩
theorem ys2 {P : Program} {w : World} {K : Frag} {tg : Expr} (x : Str) (t : Tok) (it : Addr) : Turn P w K tg (Its x) [it] it (fun i h => h.IsStrIter it "str_ascii_iterator" x t i) where
 mem := by simp
 obj := fun i h st b hb => by
  obtain rfl : b = it := by simpa using hb
  obtain ⟨o, e, c, d⟩ := st
  exact ⟨o, e, fun v z => by rw [d] at z; cases z⟩
 keep := fun i h h' st k => by
  obtain ⟨o, e, c, d⟩ := st
  exact ⟨o, k it (by simp) o e, c, d⟩
 item := by
  intro X hP hw hK hc i pins s σ H E I hf st hg
  subst hP hw hK
  have hg : i < x.cps.size := hg
  obtain ⟨f0, f1, f2, f3, f4, f5⟩ := hf it (by simp)
  refine wpAny_pyNext_ascii_item st (c := x.cps[i]) (by simp [hg]) fun h' st' sb => ?_
  have I1 : Inv X pins σ H { s with heap := h', toks := s.toks + 1 } := I.turned (t' := s.toks + 1) (fun b o hb e => (sb.2 b hb).trans e) f0 f1 f3 f4 f5
  obtain ⟨o, e1, c, d⟩ := id st'
  exact ⟨_, rfl, yn9 (s := { s with heap := h', toks := s.toks + 1 }) e1 c d (by decide) ⟨.str ⟨#[x.cps[i]]⟩, H, I1, ⟨_, rfl⟩, ⟨rfl, x.cps[i], by simp [hg], rfl⟩, st', fun b hb => (hf b hb).1⟩⟩
 done := by
  intro X hP hw hK hc i pins s σ H E I hf st hg
  subst hP hw hK
  have hg : x.cps.size <= i := hg
  obtain ⟨f0, f1, f2, f3, f4, f5⟩ := hf it (by simp)
  exact wpAny_pyNext_ascii_end (I.ok.hd hc) st (by simp [hg]) fun h' eb => ⟨rfl, I.turned (t' := s.toks) (fun b o hb e => eb b o hb e) f0 f1 f3 f4 f5⟩
 self := fun _ _ _ _ _ st h => wpAny_pyIter_striter_ascii st h
theorem yw6 {P : Program} {w : World} {K : Frag} {tg : Expr} (x : Str) (t : Tok) (it : Addr) : Turn P w K tg (Its x) [it] it (fun i h => h.IsStrIter it "str_iterator" x t i) where
 mem := by simp
 obj := fun i h st b hb => by
  obtain rfl : b = it := by simpa using hb
  obtain ⟨o, e, c, d⟩ := st
  exact ⟨o, e, fun v z => by rw [d] at z; cases z⟩
 keep := fun i h h' st k => by
  obtain ⟨o, e, c, d⟩ := st
  exact ⟨o, k it (by simp) o e, c, d⟩
 item := by
  intro X hP hw hK hc i pins s σ H E I hf st hg
  subst hP hw hK
  have hg : i < x.cps.size := hg
  obtain ⟨f0, f1, f2, f3, f4, f5⟩ := hf it (by simp)
  refine wpAny_pyNext_wide_item st (c := x.cps[i]) (by simp [hg]) fun h' st' sb => ?_
  have I1 : Inv X pins σ H { s with heap := h', toks := s.toks + 1 } := I.turned (t' := s.toks + 1) (fun b o hb e => (sb.2 b hb).trans e) f0 f1 f3 f4 f5
  obtain ⟨o, e1, c, d⟩ := id st'
  exact ⟨_, rfl, yn9 (s := { s with heap := h', toks := s.toks + 1 }) e1 c d (by decide) ⟨.str ⟨#[x.cps[i]]⟩, H, I1, ⟨_, rfl⟩, ⟨rfl, x.cps[i], by simp [hg], rfl⟩, st', fun b hb => (hf b hb).1⟩⟩
 done := by
  intro X hP hw hK hc i pins s σ H E I hf st hg
  subst hP hw hK
  have hg : x.cps.size <= i := hg
  obtain ⟨f0, f1, f2, f3, f4, f5⟩ := hf it (by simp)
  exact wpAny_pyNext_wide_end (I.ok.hd hc) st (by simp [hg]) fun h' eb => ⟨rfl, I.turned (t' := s.toks) (fun b o hb e => eb b o hb e) f0 f1 f3 f4 f5⟩
 self := fun _ _ _ _ _ st h => wpAny_pyIter_striter_wide st h
def iStr (tl : TE) : TI := fun σ H R => tl σ H fun v H1 => ∃ x, v = .str x /\ R (Its x) H1
theorem pi_str {X : Cx} {tg l : Expr} {tl : TE} (hl : PE X l tl) : PI X tg l (iStr tl) := by
 intro pins s σ H R I h
 refine thn (hl pins s σ H _ I h) fun v s1 ⟨y, H1, I1, r1, q1⟩ => ?_
 obtain ⟨x, rfl, q⟩ := q1
 obtain ⟨t, rfl⟩ := r1
 have fp : ∀ b ∈ [s1.heap.objs.size], FpOk X pins H1 b := fun b hb => by
  obtain rfl : b = s1.heap.objs.size := by simpa using hb
  exact I1.fpOk (Nat.le_refl _) (I1.hok.fresh (Nat.le_refl _))
 cases ha : x.cps.all (· < 128)
 ·exact wpAny_pyIter_wide ha ⟨s1.heap.objs.size, [s1.heap.objs.size], _, _, H1, rfl, I1.kept (t' := s1.toks) fun b o e => Heap.get?_push_of_some _ e, yw6 x t _, ⟨_, Heap.get?_push_size _ rfl, rfl, rfl⟩, fp, q⟩
 ·exact wpAny_pyIter_ascii ha ⟨s1.heap.objs.size, [s1.heap.objs.size], _, _, H1, rfl, I1.kept (t' := s1.toks) fun b o e => Heap.get?_push_of_some _ e, ys2 x t _, ⟨_, Heap.get?_push_size _ rfl, rfl, rfl⟩, fp, q⟩
section
variable {X : Cx}
theorem yy0 : SlR X (fun x lo hi H Q => ∃ z, x = .str z /\ z.length <= sizeLine /\ Q (.str (Txt.slice z lo hi)) H) := by
 intro pins s σ H x v vl vu lo hi sl Q I rx hs pl pu h
 obtain ⟨z, rfl, hz, q⟩ := h
 obtain ⟨t, rfl⟩ := rx
 refine ⟨"str", _, F.slot_str_getitem.lookup, typeIs_str _ _ _, ?_⟩
 have fin : ∀ lo hi, Q (.str (Txt.slice z lo hi)) H -> (Txt.slice z lo hi).length <= sizeLine /\ ∀ t' k, EP X pins σ Q (.str (Txt.slice z lo hi) t') { s with toks := k } := fun lo hi q => ⟨Nat.le_trans (Txt.slice_le z _ _) hz, fun t' k => ⟨.str _, H, I.tok k, ⟨_, rfl⟩, q⟩⟩
 obtain ⟨os, e1, e2, e3⟩ := hs
 cases pl with
 | none =>
  cases pu with
  | none => exact wpAny_getItem_str_slice (l := none) (u := none) (st := none) ⟨os, e1, e2, e3⟩ rfl (post_val_or_str (fin _ _ q))
  | int j u => exact wpAny_getItem_str_slice (l := none) (u := some (j, u)) (st := none) ⟨os, e1, e2, e3⟩ rfl (post_val_or_str (fin _ _ q))
 | int i u =>
  cases pu with
  | none => exact wpAny_getItem_str_slice (l := some (i, u)) (u := none) (st := none) ⟨os, e1, e2, e3⟩ rfl (post_val_or_str (fin _ _ q))
  | int j u2 => exact wpAny_getItem_str_slice (l := some (i, u)) (u := some (j, u2)) (st := none) ⟨os, e1, e2, e3⟩ rfl (post_val_or_str (fin _ _ q))
theorem yb0 {o e : Expr} {es : List Expr} {to : TE} {t : TA} {name : Str} {apos cpos : Pos} {T id : String} {r : V -> List V -> Hp -> VK -> Prop} (K : Frag) (pa : PlainAttrs T) (slot : Slot T name id) (hty : typeOf (.builtin id) = pure (.type "method_descriptor")) (hm : MtR X id r) (ho : PE X o to) (ha : PA X (e :: es) t)
  (hbase : attributeBase o name X.env (eval o X.env) = eval o X.env := by rfl)
  (hfew : ((backTo cpos (starEach (e :: es) X.env)).all (fun x => !x.1) && (backToKw cpos (keywordEach [] X.env)).all (fun x => x.1.isSome)
   && decide ((e :: es).length + ([] : List Keyword).length + (if ([] : List Keyword).isEmpty then 0 else 1) < 30)) = true := by rfl)
  (hline : (apos.endLine == cpos.line) = true := by rfl) (hs : starEach (e :: es) X.env = (false, eval e X.env) :: starEach es X.env := by rfl) (hplain : (backTo cpos (starEach es X.env)).any (·.1) = false := by rfl) (hK : X.K = K := by rfl) :
  PE X (.Call (.Attribute o name apos) (e :: es) [] cpos) (tBM K T r to t) := by
 subst hK
 exact pe_bm pa slot hty hm ho ha hbase hfew hline hs hplain
theorem xg1 (K : Frag) (hK : X.K = K := by rfl) : xi1 X (.builtin "isinstance") (fun xs H Q => ∃ x n t b, xs = [x, .ty n] /\ TyOf K H x (.type t) /\ kitOne K (.type t) (.type n) = some b /\ Q (.bl b) H) := by
 subst hK
 intro pins s σ H xs us Q I r h
 obtain ⟨x, n, t, b, rfl, ht, hb, q⟩ := h
 obtain ⟨u, w', rfl, r1, r2⟩ := yr8 r
 cases r2
 exact yj6 I r1 ht hb fun tk => ⟨.bl b, H, I.tok tk, rfl, q⟩
end
theorem xz1 : bootBuiltins "ValueError" = some (.type "ValueError") := by decide +kernel
theorem xw2 {X : Cx} {x : Str} {i : Int} {pos : Pos} (hg : Gl X x) (hm : ∃ t, X.mg x = some (.int i t)) (hd : (x == ("__debug__" : Str)) = false := by decide) : PE X (.Name x pos) (tC (.int i)) := by
 obtain ⟨t, h⟩ := hm
 exact xk7 hg h ⟨_, rfl⟩ hd
theorem pe_gstr {X : Cx} {x z : Str} {pos : Pos} (hg : Gl X x) (hm : ∃ t, X.mg x = some (.str z t)) (hd : (x == ("__debug__" : Str)) = false := by decide) : PE X (.Name x pos) (tC (.str z)) := by
 obtain ⟨t, h⟩ := hm
 exact xk7 hg h ⟨_, rfl⟩ hd
open PySem PySem.NumText PyProof.Rows
abbrev cs (x : Str) : List Nat := x.cps.toList
theorem cs_app (a b : Str) : cs (a ++ b) = cs a ++ cs b := PySem.W.KT.app_list a b
theorem yr5 (a : Str) : (cs a).length = a.length := by simp [cs, Str.length]
structure XInit (K : Frag) (C CL f : Addr) : Prop where
 obj : ∃ nm qn N bs hdct sn sub ab col dd k0 k1 k2 k3 k5, K.lookup C = some (excClassObj nm qn C N bs (.ref CL :: xn3) hdct sn sub ab col dd k0 k1 k2 k3 k5 "ValueError.__new__")
 up : ExcC K CL
 top : ∃ nm qn N bs hdct sn sub ab col dd k0 k1 k2 k3 k5, K.lookup CL = some (excClassObj nm qn CL N bs xn3 hdct sn sub ab col dd k0 k1 k2 k3 k5 "ValueError.__new__")
 init : findIn K (.ref C) "__init__" = some (some (.ref f))
 fn : typeIn K (.ref f) = some (.type "function")
 kp : keepIn K (.ref C) = true
 sa : findIn K (.ref C) "__setattr__" = some (some (.builtin "object.__setattr__"))
 hd : hasDictIn K C = true
 xc : XCls K C
theorem XInit.here {K : Frag} {C CL f : Addr} (x : XInit K C CL f) {g : Heap} (kin : K.In g) : ∃ nm qn N bs hdct sn sub ab col dd k0 k1 k2 k3 k5, g.get? C = some (excClassObj nm qn C N bs (.ref CL :: xn3) hdct sn sub ab col dd k0 k1 k2 k3 k5 "ValueError.__new__") /\ OwnTail g xn3 (.ref CL :: xn3) := by
 obtain ⟨nm, qn, N, bs, hdct, sn, sub, ab, col, dd, k0, k1, k2, k3, k5, h⟩ := x.obj
 refine ⟨nm, qn, N, bs, hdct, sn, sub, ab, col, dd, k0, k1, k2, k3, k5, kin _ _ h, ?_⟩
 obtain ⟨nm', qn', N', bs', bm', hdct', sn', sub', ab', col', dd', j0, j1, j2, j3, j5, mN, c1, c2, c3, c4⟩ := exc_of kin x.up
 exact .own c1 c2 c3 .base
section
variable {prog : Program} {w : World} {A : Around} {E : Value -> Shared -> Prop} {s : Shared} {K : Frag} {ea C CL f : Addr} {oe : Obj} {od : Option Obj}
theorem xosa {R : Result -> Shared -> Prop} {name : Str} {tk : Tok} {v : Value} (kin : K.In s.heap) (x : XInit K C CL f) (I : InstAt s.heap ea oe C od) (hn : findIn K (.ref C) name = some none)
  (h : wpAny (model prog w) A.in1 (Builtin.ObjectAttr.storeInOwnDict (.ref ea) (.ref C) (.str name tk) name v false)
   (fun fin s' => match fin with | .done f => R (.ok f) s' | .again c' => c'.quiet = true /\ codeAny (model prog w) A c' R s') (fun e s' => R (.error e) s') s) :
  codeAny (model prog w) A (.call (.builtin "object.__setattr__") ⟨[.ref ea, .str name tk, v], []⟩) R s := by
 have SF := PySem.F.store_ValueError
 obtain ⟨nm, qn, N, bs, hdct, sn, sub, ab, col, dd, k0, k1, k2, k3, k5, hlk⟩ := x.obj
 have hm : PySem.W.Looks (model prog w) s.heap (mroOf (.ref C)) (.ref C :: .ref CL :: xn3) := by
  obtain ⟨cd, hc, hmro⟩ : ∃ cd, clsIn K C = some cd /\ cd.mro = .ref C :: .ref CL :: xn3 := ⟨_, by unfold clsIn; rw [hlk], rfl⟩
  rw [<- hmro]
  exact (looks_clsIn kin hc).andThen .now
 have isob : PySem.W.Looks (model prog w) s.heap (isInstance (.ref ea) (.type "object")) true := I.type.andThen (looks_mroIn kin x.xc.mo)
 have LN := looks_findIn (M := model prog w) kin hn
 have LT : PySem.W.Looks (model prog w) s.heap (typeOf (.ref ea)) (.ref C) := I.type
 have pas : Builtin.ObjectAttr.refuseIfOverridden (.ref ea) "__setattr__" = (typeOf (.ref ea) >>= fun tp => mroOf tp >>= fun l => refuseLoop (.ref ea) "__setattr__" l) := refuse_eq _ _
 have pas2 : refuseLoop (.ref ea) "__setattr__" (.ref C :: .ref CL :: xn3) = pure () := by
  rw [refuseLoop_ref, refuseLoop_ref]
  exact SF.passes _
 refine codeAny_call_builtin SF.slot.plain SF.entry (@check_slot (model prog w) _ _ s "object.__setattr__" "object" "__setattr__" (.ref ea) [.str name tk, v] [] _ SF.kind SF.split isob (SF.args (.ref ea) (.str name tk) v) ?_)
 rw [osa_eq, pas]
 refine wpAny_bind (wpAny_bind (LT.here (wpAny_bind (hm.here ?_))))
 rw [pas2]
 refine wpAny_pure (wpAny_bind (LT.here (wpAny_bind (LN.here ?_))))
 exact wpAny_bind (wpAny_pure h)
theorem xset {Q : Unit -> Shared -> Prop} {name : Str} {v : Value} (kin : K.In s.heap) (x : XInit K C CL f) (e1 : s.heap.get? ea = some oe) (e2 : oe.cls = .ref C) (e3 : oe.dict = none) {vs : Array Value} (e4 : oe.data = .fields vs) (hn : findIn K (.ref C) name = some none)
  (h : ∀ h' tk, h'.get? ea = some { oe with dict := some s.heap.objs.size } -> h'.Ns1 s.heap.objs.size (fun y => if y = name then some v else none) -> (∀ b o, b ≠ ea -> s.heap.get? b = some o -> h'.get? b = some o) -> Q () { s with heap := h', toks := tk }) :
  wpAny (model prog w) A (setAttr (.ref ea) name v) Q E s := by
 have nc : notCls oe = true := by
  cases oe with
  | mk a1 a2 a3 a4 => dsimp only at e4; subst e4; rfl
 have I : InstAt s.heap ea oe C none := ⟨e1, e2, nc, by rw [e3]; trivial⟩
 refine set_plain kin I x.sa (xosa (s := { s with toks := s.toks + 1 }) kin x I hn ?_)
 obtain ⟨cd, hc, hd⟩ := any_some x.hd
 have LC := looks_clsIn (M := model prog w) kin hc
 have at1 : (s.heap.push { cls := .type "dict", data := .dict #[] }).get? ea = some oe := Heap.get?_push_of_some _ e1
 have ne : ea ≠ s.heap.objs.size := Nat.ne_of_lt (Heap.lt_size e1)
 have nf : ({ oe with dict := some s.heap.objs.size } : Obj).isFreed = false := Obj.isFreed_of_fields (o := { oe with dict := some s.heap.objs.size }) e4
 unfold Builtin.ObjectAttr.storeInOwnDict
 refine wpAny_bind (wpAny_pure (wpAny_bind (wpAny_bind (wpAny_loadPart e1 ?_))))
 rw [e2]
 refine wpAny_bind (PySem.W.Looks.here (s := { s with toks := s.toks + 1 }) LC ?_)
 rw [hd, e3]
 rw [if_neg (by decide)]
 show wpAny _ _ (if (!true || !typeHasDict (Value.ref C)) = true then pure none else _) _ _ _
 rw [if_neg (by simp [typeHasDict]), e4]
 show wpAny _ _ (alloc { cls := .type "dict", data := .dict #[] } >>= _) _ _ _
 refine wpAny_bind (wpAny_alloc (wpAny_bind (wpAny_update (s := { s with heap := s.heap.push { cls := .type "dict", data := .dict #[] }, toks := s.toks + 1 }) at1 ?_)))
 refine wpAny_pure ?_
 show wpAny _ _ (Builtin.ObjectAttr.storeInDict s.heap.objs.size (.str name s.toks) name v) _ _ _
 unfold Builtin.ObjectAttr.storeInDict Builtin.ObjectAttr.newKeyGuard
 generalize hg : (s.heap.push { cls := .type "dict", data := .dict #[] }).update ea (fun o => { cls := o.cls, dict := some s.heap.objs.size, data := o.data, slots := o.slots }) = g2
 have g2e : g2.get? ea = some { oe with dict := some s.heap.objs.size } := by rw [<- hg]; exact Heap.get?_update_self _ at1 nf
 have g2d : g2.get? s.heap.objs.size = some { cls := .type "dict", data := .dict #[] } := by
  rw [<- hg, Heap.get?_update_other _ _ ne]
  exact Heap.get?_push_at rfl rfl
 have g2o : ∀ b o, b ≠ ea -> s.heap.get? b = some o -> g2.get? b = some o := fun b o n q => by
  rw [<- hg, Heap.get?_update_other _ _ (Ne.symm n)]
  exact Heap.get?_push_of_some _ q
 have empty : g2.Ns s.heap.objs.size (fun _ => none) := ⟨_, #[], _, g2d, rfl, fun q hq => absurd hq (by simp), fun _ => rfl⟩
 refine wpAny_bind (wpAny_pure (wpAny_bind (wpAny_nsSet1 (s := { s with heap := g2, toks := s.toks + 1 }) (Heap.Ns1.of_empty empty) fun h3 n3 same3 => ?_)))
 obtain ⟨oD, esD, epD, d1, d2, d3⟩ := n3.count (PySem.Within.cons name v PySem.Within.nil)
 refine wpAny_bind (wpAny_lookBehind d1 (by rw [d2]; exact pastItsLine_dict (Nat.le_trans d3 (by rw [List.length_cons, List.length_nil, sizeLine_eq]; omega))) ?_)
 refine wpAny_pure (h h3 _ ((same3.2 ea ne).trans g2e) ?_ fun b o n q => (same3.2 b (Nat.ne_of_lt (Heap.lt_size q))).trans (g2o b o n q))
 obtain ⟨o', es, ep, q1, q2, q3, q4, q5⟩ := n3
 exact ⟨o', es, ep, q1, q2, q3, q4, q5⟩
theorem yw0 {Q : Value -> Shared -> Prop} {rest : List Value} {dx : Option Addr} (kin : K.In s.heap) (x : XInit K C CL f) (md : Made s.heap ea (.ref C) dx) (hr : rest.length <= sizeLine)
  (h : ∀ h', Made h' ea (.ref C) dx -> (∀ b o, b ≠ ea -> s.heap.get? b = some o -> h'.get? b = some o) -> Q .none { s with heap := h' }) :
  wpAny (model prog w) A (call (.builtin "ValueError.__init__") (.ref ea :: rest)) Q E s := by
 obtain ⟨g1, g2, g3, g4, g5⟩ := s
 have FV := PySem.F.excBase_ValueError
 obtain ⟨nm, qn, N, bs, hdct, sn, sub, ab, col, dd, k0, k1, k2, k3, k5, hC, tl⟩ := x.here kin
 obtain ⟨oe, vs, a0, e1, e2, e3, e4, e5, e6⟩ := md
 refine wpAny_call (codeAny_call_builtin FV.init.plain FV.initEntry (wpAny_check_init_subT FV tl hC e1 e2 ?_))
 have sz : 0 < vs.size := (Array.getElem?_eq_some_iff.mp e5).1
 have at1 : (g1.push { cls := .type "tuple", data := .seq rest.toArray }).get? ea = some oe := Heap.get?_push_of_some _ e1
 delta Builtin.«BaseException.__init__»
 show wpAny _ _ (newTuple rest >>= _) _ _ _
 unfold newTuple
 refine wpAny_bind (wpAny_newObj_type ?_ (by show rest.toArray.size <= sizeLine; rw [List.size_toArray]; exact hr))
 unfold Builtin.BaseException.bexcPut
 refine wpAny_bind (wpAny_bind (wpAny_field at1 e4 e5 (wpAny_bind (wpAny_setField at1 e4 sz ?_))))
 have fin : Q .none ⟨(g1.push { cls := .type "tuple", data := .seq rest.toArray }).update ea (Obj.mapFields (·.setIfInBounds 0 (.ref g1.objs.size))), g2, g3, g4, g5⟩ := by
  refine h _ ⟨_, _, .ref g1.objs.size, Heap.get?_update_self _ at1 (Obj.isFreed_of_fields (Obj.data_mapFields e4 _)), by rw [Obj.cls_mapFields]; exact e2, by rw [yr4]; exact e3, Obj.data_mapFields e4 _, by simp [sz], by rw [Array.getElem?_setIfInBounds_ne (by decide)]; exact e6⟩ fun b o n q => ?_
  rw [Heap.get?_update_other _ _ (Ne.symm n)]
  exact Heap.get?_push_of_some _ q
 cases a0 <;> first | exact wpAny_letGo (wpAny_pure fin) | exact wpAny_pure (wpAny_pure fin)
abbrev xt5 (C t : Addr) : Obj := { cls := .ref C, data := .fields #[.ref t, .none, .none, .none, .bool false, .none] }
theorem yq1 {R : Result -> Shared -> Prop} {us : List Value} (kin : K.In s.heap) (x : XInit K C CL f) (hr : us.length <= sizeLine)
  (h : codeAny (model prog w) (A.under (.builtin "type.__call__" ⟨.ref C :: us, []⟩)) (.call (.ref f) ⟨.ref (s.heap.objs.size + 1) :: us, []⟩) (InitBack (s.heap.objs.size + 1) R)
   { s with heap := (s.heap.push { cls := .type "tuple", data := .seq us.toArray }).push (xt5 C s.heap.objs.size) }) :
  codeAny (model prog w) A (.call (.ref C) ⟨us, []⟩) R s := by
 obtain ⟨g1, g2, g3, g4, g5⟩ := s
 have FV := PySem.F.excBase_ValueError
 obtain ⟨nm, qn, N, bs, hdct, sn, sub, ab, col, dd, k0, k1, k2, k3, k5, hCl, tl⟩ := x.here kin
 have f1 := tc_lookup
 have f2 := tc_bind (.ref C)
 have tyC : (⟨g1, g2, g3, g4, g5⟩ : Shared).TypeIs (.ref C) "type" := ⟨_, hCl, rfl⟩
 have keeps : ∀ b o, g1.get? b = some o -> ((g1.push { cls := .type "tuple", data := .seq us.toArray }).push (xt5 C g1.objs.size)).get? b = some o := fun b o q => Heap.get?_push_of_some _ (Heap.get?_push_of_some _ q)
 have hC1 := keeps _ _ hCl
 have kin1 : K.In ((g1.push { cls := .type "tuple", data := .seq us.toArray }).push (xt5 C g1.objs.size)) := kin.keeps keeps
 have got : ((g1.push { cls := .type "tuple", data := .seq us.toArray }).push (xt5 C g1.objs.size)).get? (g1.objs.size + 1) = some (xt5 C g1.objs.size) := by heap_get
 have LI := looks_findIn (M := model prog w) kin1 x.init
 have LB := bind_fn (M := model prog w) kin1 (.ref (g1.objs.size + 1)) x.fn
 have isC : (Value.ref C :: .ref CL :: xn3).contains (.ref C) = true := by simp
 refine codeAny_of_tree ?_
 show wpAny (model prog w) _ (callAny (.ref C) _) _ _ _
 repeat (any_goals (first | assumption | with_reducible refine wpAny_loadPart_at hCl ?_ | wp_step))
 refine ⟨rfl, ?_⟩
 refine codeAny_call_builtin_at (Code.quiet_builtin _ (by decide +kernel)) entry_typeCall (wpAny_check_type_call_sub hCl ?_)
 repeat (first | with_reducible refine wpAny_loadPart_at hCl ?_ | with_reducible refine wpAny_madeBy_exc hCl ?_ | wp_step)
 refine codeAny_call_builtin_code (Code.quiet_builtin _ FV.quiet) (wpAny_check_new_subT FV tl hCl ?_)
 refine codeAny_exc_new_subT FV tl hCl ?_ hr
 show wpAny _ _ _ _ _ _
 have LT : PySem.W.Looks (model prog w) ((g1.push { cls := .type "tuple", data := .seq us.toArray }).push (xt5 C g1.objs.size)) (typeOf (.ref (g1.objs.size + 1))) (.ref C) := (PySem.W.Looks.ld got).andThen .now
 have LS : PySem.W.Looks (model prog w) ((g1.push { cls := .type "tuple", data := .seq us.toArray }).push (xt5 C g1.objs.size)) (isSubtype (.ref C) (.ref C)) true := by
  intro A1 Q1 E1 s1 k1 q1
  obtain ⟨j1, j2, j3, j4, j5⟩ := s1
  exact wpAny_isSubtype_exc (k1 _ _ hC1) (by rw [isC]; exact q1)
 unfold callSpecial? isInstance specialOf
 refine wpAny_bind (wpAny_bind (LT.at (LS.at ?_)))
 rw [if_neg (by decide)]
 refine wpAny_bind (wpAny_holding (wpAny_bind (wpAny_bind (LT.at (LI.at ?_)))))
 refine wpAny_holding (wpAny_bind (LB.at (wpAny_bind (wpAny_call ?_))))
 refine codeAny_mono h fun r s' z => ?_
 cases r with
 | error ev => exact z
 | ok fl =>
  cases fl with
  | ret v =>
   obtain ⟨rfl, z2⟩ := z
   exact wpAny_pure (wpAny_pure z2)
  | next => exact z.elim
  | brk => exact z.elim
  | cont => exact z.elim
theorem yt4 {env : Env} {t : Sem Value} {pos : Pos} {Q : Flow -> Shared -> Prop} (hh : A.handled = none)
  (h : wpAny (model prog w) A t (fun v s1 => ∃ e dx, v = .ref e /\ K.In s1.heap /\ (∃ C CL f, XInit K C CL f /\ Made s1.heap e (.ref C) dx) /\ E (.ref e) s1) E s) : wpAny (model prog w) A (raiseStmt env (some (do let v <- t; standAt pos; pure v)) none) Q E s := by
 unfold raiseStmt
 refine wpAny_bind (wpAny_bind (wpAny_mono h (fun v s1 z => wpAny_bind (wpAny_standAt (wpAny_pure ?_))) fun _ _ z => z))
 obtain ⟨e, dx, rfl, kin, ⟨C, CL, f, x, md⟩, hE⟩ := z
 obtain ⟨nm, qn, N, bs, hdct, sn, sub, ab, col, dd, k0, k1, k2, k3, k5, hCl, tl⟩ := x.here kin
 obtain ⟨oe, vs, a0, e1, e2, e3, e4, e5, e6⟩ := md
 obtain ⟨g1, g2, g3, g4, g5⟩ := s1
 cases oe with
 | mk c1 c2 c3 c4 =>
  dsimp only at e2 e3 e4
  subst e2 e3 e4
  have isB : (Value.ref C :: .ref CL :: xn3).contains (.type "BaseException") = true := by
   rw [List.contains_cons, List.contains_cons]
   rfl
  repeat (first | with_reducible refine wpAny_loadPart_at e1 ?_ | with_reducible refine wpAny_loadPart_at hCl ?_ | (with_reducible refine wpAny_isSubtype_exc hCl ?_; rw [isB]) | wp_step)
  rw [e6]
  refine wpAny_pure ?_
  rw [if_neg (by decide)]
  exact wpAny_pure (wpAny_raiseNew_none hh hE)
end
def xp7 (ea : Addr) (cls : Value) (dx : Option Addr) : HO := .ext fun h => Made h ea cls dx
theorem ye6 {P : Program} {w : World} {H : Hp} {g : Heap} {ea : Addr} {cls : Value} {dx : Option Addr} (m : Made g ea cls dx) : xd4 P w H g ea (xp7 ea cls dx) := by
 obtain ⟨oe, vs, a0, e1, e2⟩ := id m
 exact ⟨m, ⟨oe, e1⟩, fun h1 h2 ⟨o1, v1, b1, q1, q2⟩ k => ⟨o1, v1, b1, k _ q1, q2⟩⟩
theorem xr2 {P : Program} {w : World} {H : Hp} {g : Heap} {ea : Addr} {cls : Value} {dx : Option Addr} (k : HOk P w H g) (e : H ea = some (xp7 ea cls dx)) : Made g ea cls dx := (k _ _ e).1
def yv8 (H : Hp) (a : Addr) : Hp := fun b => if b = a then none else H b
theorem yc6 {H : Hp} {a : Addr} : yv8 H a a = none := by unfold yv8; rw [if_pos rfl]
theorem xg3 {H : Hp} {a b : Addr} (h : b ≠ a) : yv8 H a b = H b := by unfold yv8; rw [if_neg h]
section
variable {X : Cx} {pins : List (Addr × Obj)} {σ : St} {H : Hp} {s : Shared} {ea C CL f : Addr}
theorem Inv.madeX (I : Inv X pins σ H s) (us : List Value) : Inv X pins σ (upd H (s.heap.objs.size + 1) (xp7 (s.heap.objs.size + 1) (.ref C) none)) { s with heap := (s.heap.push { cls := .type "tuple", data := .seq us.toArray }).push (xt5 C s.heap.objs.size) } := by
 have I1 : Inv X pins σ H { s with heap := s.heap.push { cls := .type "tuple", data := .seq us.toArray } } := I.kept (t' := s.toks) fun b o q => Heap.get?_push_of_some _ q
 refine I1.laid (t' := s.toks) (fun b o q => Heap.get?_push_of_some _ q) (by show (s.heap.push _).objs.size <= _; rw [Heap.size_push]; exact Nat.le_refl _) (ye6 ?_)
 exact ⟨_, _, _, Heap.get?_push_at (by rw [Heap.size_push]) rfl, rfl, rfl, rfl, rfl, rfl⟩
theorem Inv.untrack {φ : Heap -> Prop} (I : Inv X pins σ H s) (e : H ea = some (.ext φ)) (old : X.s₀.heap.get? ea = none) : Inv X pins σ (yv8 H ea) s := by
 have nt : ∀ b o, H b = some o -> (∀ ψ, o ≠ .ext ψ) -> b ≠ ea := fun b o q n z => by rw [z, e] at q; cases q; exact n _ rfl
 refine ⟨I.ok, I.os, I.bare, ⟨I.base.keep, I.base.slot, fun b o q n hx => ?_, I.base.there, fun b xs q => ?_, fun b o xs q => ?_, fun b ps q => ?_⟩, I.loc, I.cell, ?_, fun x c q => ?_, fun p hp => ?_, fun b u q => ?_, I.len⟩
 ·rw [xg3 (fun z => by rw [z, old] at q; cases q)]; exact I.base.free b o q n hx
 ·have q2 := I.base.tups b xs q
  rw [xg3 (nt b _ q2 (fun _ z => by cases z))]; exact q2
 ·have q2 := I.base.frzs b o xs q
  rw [xg3 (nt b _ q2 (fun _ z => by cases z))]; exact q2
 ·obtain ⟨mm, q2⟩ := I.base.tbls b ps q
  exact ⟨mm, by rw [xg3 (nt b _ q2 (fun _ z => by cases z))]; exact q2⟩
 ·rw [xg3 (xa7 e I.free).symm]; exact I.free
 ·rw [xg3 (xa7 e (I.freeC x c q)).symm]; exact I.freeC x c q
 ·obtain ⟨q1, q2, q3⟩ := I.pin p hp
  exact ⟨q1, by rw [xg3 (xa7 e q2).symm]; exact q2, q3⟩
 ·by_cases hb : b = ea
  ·rw [hb, yc6] at q; cases q
  ·rw [xg3 hb] at q
   exact (I.hok b u q).stay (fun _ _ _ z => z) (fun c z => by rw [xg3 (nt c _ z (fun _ y => by cases y))]; exact z) fun c xs z => by rw [xg3 (nt c _ z (fun _ y => by cases y))]; exact z
end
def tRaiseI (E : XK) (C : Addr) (sp : Sp) (dvs : List V) (t : TA) : TS := fun _ σ H => t σ H fun vs H1 => vs.length <= 1000 /\ ∀ ea, H1 ea = none ->
 sp (.ref ea :: (vs ++ dvs)) (upd H1 ea (xp7 ea (.ref C) none)) (fun v H2 => v = .non /\ ∃ dx, H2 ea = some (xp7 ea (.ref C) dx) /\ E (.ref C) dx (yv8 H2 ea)) E0
section
variable {P : Program} {w : World} {K : Frag} {mg : Str -> Option Value} {base : Heap} {N : List Str} {qual : Str} {scope : Scope} {f : Addr} {cd : Value} {A : Around} {outer : List Env} {s₀ : Shared} {H₀ : Hp} {E : XK}
theorem yi0 {x : Str} {e : Expr} {es : List Expr} {t : TA} {C CL fi : Addr} {fd : FuncData} {ps : List Str} {sp : Sp} {dvs : List V} {ds : List Value} {k : Nat} {np cpos pos : Pos} (xi : XInit K C CL fi)
  (G : FnOk P w K mg base (CXE P w) k fi fd ps sp) (hr : Room (k + 1) (cxE P w K mg base N qual scope f cd A outer s₀ H₀ E).A)
  (hg : Gl (cxE P w K mg base N qual scope f cd A outer s₀ H₀ E) x) (hm : mg x = some (.ref C)) (hb : xc5 K fd ps ds) (hd : Vals dvs ds) (ha : PA (cxE P w K mg base N qual scope f cd A outer s₀ H₀ E) (e :: es) t)
  (hdb : (x == ("__debug__" : Str)) = false := by decide) (he : starEach (e :: es) (cxE P w K mg base N qual scope f cd A outer s₀ H₀ E).env = (false, eval e (cxE P w K mg base N qual scope f cd A outer s₀ H₀ E).env) :: starEach es (cxE P w K mg base N qual scope f cd A outer s₀ H₀ E).env := by rfl)
  (hpl : (backTo cpos (starEach es (cxE P w K mg base N qual scope f cd A outer s₀ H₀ E).env)).any (·.1) = false := by rfl) :
  PS (cxE P w K mg base N qual scope f cd A outer s₀ H₀ E) (.Raise (some (.Call (.Name x np) (e :: es) [] cpos)) none pos) (tRaiseI E C sp dvs t) := by
 intro pins s σ H D I h
 rw [arm_exec_Raise]
 refine wpAny_bind (wpAny_standAt ?_)
 refine yt4 (K := K) (I.ok.hd rfl) ?_
 refine wpAny_Call_Name_kw (xm8 I hg hm ?_ hdb)
 refine callWith_K (h₀ := base) I.ok.mod.kin xi.kp (thn (ha cpos pins s σ H _ I h) fun us s1 ⟨vs, H1, I1, r, hlen, q⟩ => ⟨I1.kIn, ?_⟩) he hpl
 have nw : s1.heap.get? (s1.heap.objs.size + 1) = none := Heap.get?_none_of_le (Nat.le_succ _)
 have hq := q _ (I1.hok.none_of nw)
 have ap := I1.apart rfl nw
 have I2 := I1.madeX (C := C) us
 have r2 : Vals (V.ref (s1.heap.objs.size + 1) :: (vs ++ dvs)) (Value.ref (s1.heap.objs.size + 1) :: (us ++ ds)) := .cons rfl (r.append hd)
 have hl : (Value.ref (s1.heap.objs.size + 1) :: us ++ ds).length = ps.length := by
  have e := r2.length
  rw [G.len _ _ _ _ hq] at e
  exact e.symm
 refine wpAny_call (yq1 I1.kIn xi (by show us.length <= sizeLine; rw [<- r.length]; exact xd7 hlen) (codeAny_mono (G.run _ _ _ _ ⟨Value.ref (s1.heap.objs.size + 1) :: us, []⟩ (Value.ref (s1.heap.objs.size + 1) :: (us ++ ds)) _ _ _ (hr.make C us [])
  (I2.env0.make C us []) (hb _ (Value.ref (s1.heap.objs.size + 1) :: us) I2.kIn hl) r2 hq) fun rr s' hq' => ?_))
 cases rr with
 | error ev =>
  obtain ⟨_, _, _, _, _, _, _, _, _, _, _, _, _, _, _, z⟩ := hq'
  exact z.elim
 | ok fl =>
  cases fl with
  | ret u =>
   obtain ⟨v, H', I3, rv, ev, dx, e3, q3⟩ := I2.after hq'
   subst ev
   have md := xr2 I3.hok e3
   exact ⟨rv, _, dx, rfl, I3.kIn, ⟨C, CL, fi, xi, md⟩, yo9 (I3.untrack e3 ap.old) md ⟨yc6, ap.old, ap.loc, ap.cell, ap.pin⟩ q3⟩
  | next => exact False.elim hq'
  | brk => exact False.elim hq'
  | cont => exact False.elim hq'
end
section
variable {X : Cx} {pins : List (Addr × Obj)} {σ : St} {H : Hp} {s : Shared} {ea : Addr}
theorem Inv.trackO {u : HO} (I : Inv X pins σ H s) (a : Apart X pins H ea) (hx : xd4 X.prog X.w (upd H ea u) s.heap ea u) : Inv X pins σ (upd H ea u) s := by
 have ne : ∀ b o, X.s₀.heap.get? b = some o -> b ≠ ea := fun b o e z => by rw [z, a.old] at e; cases e
 have nt : ∀ b o, H b = some o -> b ≠ ea := fun b o e => xa7 e a.trk
 refine ⟨I.ok, I.os, I.bare, ⟨I.base.keep, I.base.slot, fun b o e n hx => ?_, I.base.there, fun b xs e => ?_, fun b o xs e => ?_, fun b ps e => ?_⟩, I.loc, I.cell, ?_, fun x c e => ?_, fun p hp => ?_, fun b v e => ?_, I.len⟩
 ·rw [xa3 (ne b o e)]; exact I.base.free b o e n hx
 ·have q := I.base.tups b xs e
  rw [xa3 (nt b _ q)]; exact q
 ·have q := I.base.frzs b o xs e
  rw [xa3 (nt b _ q)]; exact q
 ·obtain ⟨mm, q⟩ := I.base.tbls b ps e
  exact ⟨mm, by rw [xa3 (nt b _ q)]; exact q⟩
 ·rw [xa3 (Ne.symm a.loc)]; exact I.free
 ·rw [xa3 (a.cell x c e)]; exact I.freeC x c e
 ·obtain ⟨q1, q2, q3⟩ := I.pin p hp
  exact ⟨q1, by rw [xa3 (a.pin p hp)]; exact q2, q3⟩
 ·by_cases hb : b = ea
  ·subst hb
   rw [xa1] at e
   cases e
   exact hx
  ·rw [xa3 hb] at e
   exact (I.hok b v e).stay (fun _ _ _ q => q) (fun c q => by rw [xa3 (nt c _ q)]; exact q) fun c xs q => by rw [xa3 (nt c _ q)]; exact q
theorem upd_id {a : Addr} {u : HO} (e : H a = some u) : upd H a u = H := by
 funext b
 unfold upd
 split
 ·rename_i z; rw [z, e]
 ·rfl
end
def tUp (K : Frag) (CL : Addr) (t : TA) : TE := fun σ H Q => t σ H fun vs H1 => ∃ ea C fi rest dx, vs = .ref ea :: rest /\ rest.length <= 1000 /\ H1 ea = some (xp7 ea (.ref C) dx) /\ XInit K C CL fi /\ Q .non H1
structure UpInit (K : Frag) (CL : Addr) : Prop where
 sp : specialIn K (.ref CL) "__getattribute__" = some (some (.builtin "type.__getattribute__"))
 rd : readsIn K CL (.type "type") = true
 fc : findCls K (.ref CL) (.type "type") "__init__" = some (.val (.builtin "ValueError.__init__"))
def tXFld (K : Frag) (ta : TE) (f : Str) : TE := fun σ H Q => ta σ H fun x H1 => ∃ ea C dx fs v, x = .ref ea /\ H1 ea = some (yv6 ea (.ref C) (some dx)) /\ H1 dx = some (.xd fs) /\ XCls K C /\ hasDictIn K C = true /\ findIn K (.ref C) f = some none /\ fs.lookup f = some v /\ Q v H1
section
variable {X : Cx} {o e value : Expr} {es : List Expr} {f x : Str} {pos pos' apos np : Pos} {ta tv : TE} {t : TA}
theorem za0 (K : Frag) {CL : Addr} (U : UpInit K CL) (hg : Gl X x) (hm : X.mg x = some (.ref CL)) (ha : PA X (e :: es) t) {pl : Sem Bool} (hK : X.K = K := by rfl) (hdb : (x == ("__debug__" : Str)) = false := by decide)
  (hst : starEach (e :: es) X.env = (false, eval e X.env) :: starEach es X.env := by rfl) (hpl : (backTo pos (starEach es X.env)).any (·.1) = false := by rfl)
  (ht : eval (.Call (.Attribute (.Name x np) "__init__" apos) (e :: es) [] pos) X.env = (do
   let ov <- eval (.Name x np) X.env
   standAt apos.atName
   let (f, first) <- holding [ov] (getMethod ov "__init__" pl)
   callWith pos f first (backTo pos (starEach (e :: es) X.env)) (backToKw pos (keywordEach [] X.env))) := by rfl) :
  PE X (.Call (.Attribute (.Name x np) "__init__" apos) (e :: es) [] pos) (tUp K CL t) := by
 subst hK
 intro pins s σ H Q I h
 refine methodCall_KW (pl := pl) (xm8 I hg hm ?_ hdb) ht
 refine method_cls I.kIn U.sp (cls_value I.kIn U.rd U.fc rfl ?_)
 have I0 := I.tok (s.toks + 1)
 refine callWith_builtin1 ?_ hst hpl
 refine thn (ha pos pins _ σ H _ I0 h) fun us s1 ⟨vs, H1, I1, r, ea, C, fi, rest, dx, ev, hl, hea, xi, q⟩ => ?_
 subst ev
 cases r with
 | cons r0 r1 =>
 cases r0
 refine yw0 I1.kIn xi (xr2 I1.hok hea) (by rw [<- r1.length]; exact xd7 hl) fun h' md kp => ?_
 obtain ⟨oe, _, _, e1, _⟩ := id md
 have I2 : Inv X pins σ (upd H1 ea (xp7 ea (.ref C) dx)) { s1 with heap := h', toks := s1.toks } := I1.write (x := ea) (e := ea) (by rw [hea]; exact True.intro) (.inl rfl) (fun b q hb z => kp b q hb z) ⟨_, e1⟩ (ye6 md)
 rw [upd_id hea] at I2
 exact ⟨.non, H1, I2, rfl, q⟩
theorem yz8 (K : Frag) (he : PE X e ta) (hb : attributeBase e f X.env (eval e X.env) = eval e X.env := by rfl) (hK : X.K = K := by rfl) : PE X (.Attribute e f pos) (tXFld K ta f) := by
 subst hK
 intro pins s σ H Q I h
 refine yo3 hb (thn (he pins s σ H _ I h) fun u s1 ⟨x, H1, I1, rx, ea, C, dx, fs, v, ex, hea, hdx, xc, hd, n, l, q⟩ => ?_)
 subst ex
 obtain rfl : u = Value.ref ea := rx
 obtain ⟨⟨oe, vs, e1, e2, e3, e4⟩, _, _⟩ := I1.hok _ _ hea
 obtain ⟨mA, ns, rl⟩ := I1.hok _ _ hdx
 obtain ⟨od, ho, hlk⟩ := xn9 ns
 obtain ⟨uv, hu, ru⟩ := RelO.some_of (v := v) (o := mA f) (by rw [<- l]; exact rl f)
 have nc : notCls oe = true := by
  cases oe with
  | mk a1 a2 a3 a4 => dsimp only at e4; subst e4; rfl
 have J : InstAt s1.heap ea oe C (some od) := ⟨e1, e2, nc, by rw [e3]; exact ho⟩
 unfold getAttr
 refine wpAny_bind (wpAny_mkText ?_)
 refine xget (s := { s1 with toks := s1.toks + 1 }) (P := fun w s' => w = uv /\ s' = { s1 with toks := s1.toks + 1 }) I1.kIn xc J ?_ ?_
 ·exact xu8 (s := { s1 with toks := s1.toks + 1 }) I1.kIn xc J (findObj_own hd n rfl (by rw [hlk, hu])) ⟨rfl, rfl⟩
 ·rintro w s' ⟨rfl, rfl⟩
  exact handed_on (xx9 ru) ⟨v, H1, I1.tok _, ru, q⟩
theorem xo0 (K : Frag) (hK : X.K = K := by rfl) : xi1 X (.builtin "isinstance") (fun xs H Q => ∃ (ea C dx : Addr) (fs : List (Str × V)) (c : V) (u : Value) (b : Bool), xs = [.ref ea, c] /\ H ea = some (yv6 ea (.ref C) (some dx)) /\ H dx = some (.xd fs) /\ XCls K C /\ RelV c u /\ (∀ u', RelV c u' -> u' = u) /\ kitOne K (.ref C) u = some b /\ Q (.bl b) H) := by
 subst hK
 intro pins s σ H xs us Q I r h
 obtain ⟨ea, C, dx, fs, c, u, b, rfl, hx, hdx, hc, hu, hu2, hk, q⟩ := h
 obtain ⟨u1, u2, rfl, r1, r2⟩ := yr8 r
 cases r1
 cases hu2 _ r2
 obtain ⟨⟨oe, vs, e1, e2, e3, e4⟩, _, _⟩ := I.hok _ _ hx
 obtain ⟨mA, ns, rl⟩ := I.hok _ _ hdx
 obtain ⟨od, ho, hlk⟩ := xn9 ns
 refine kia_one (yq4 (oe := oe) (od := some od) hc) I.kIn ⟨e1, e2, ?_, ?_⟩ hk (fun z => nomatch z) fun tk => ⟨.bl b, H, I.tok tk, rfl, q⟩
 ·cases oe with
  | mk a1 a2 a3 a4 => dsimp only at e4; subst e4; rfl
 ·rw [e3]; exact ho
end
structure FnH (P : Program) (w : World) (K : Frag) (mg : Str -> Option Value) (base : Heap) (k : Nat) (f : Addr) (fd : FuncData) (ps : List Str) (sp : Sp) : Prop where
 len : ∀ vs H Q E, sp vs H Q E -> vs.length = ps.length
 run : ∀ (A : Around) (ea : Addr) (outer : List Env) (s : Shared) (H : Hp) (args : Args) (us : List Value) (vs : List V) (Q : VK), Room k A -> Env0 P w K mg base A outer s H -> BindsTo s fd args (ps.zip us) -> Vals vs us -> sp vs H Q E0 ->
  codeAny (model P w) (A.mark (some (.ref ea))) (.call (.ref f) args) (fun r s' => match r with | .ok (.ret u) => CE outer P w H s Q u s' | _ => False) s
section
variable {P : Program} {w : World} {K : Frag} {mg : Str -> Option Value} {base : Heap} {qual : Str} {f : Addr}
end
open PySem PySem.Spec PySem.NumText PyProof.Rows
section
variable {X : Cx}
theorem xm1 (K : Frag) (hc : X.calm = true) (hK : X.K = K := by rfl) : xi1 X (.builtin "all") (fun xs H Q => ∃ (p : Addr) (bs : List Bool), xs = [.ref p] /\ SqL K H p (bs.map V.bl) /\ Q (.bl (bs.all id)) H) := by
 subst hK
 intro pins s σ H xs us Q I r h
 obtain ⟨p, bs, rfl, hq, q⟩ := h
 obtain ⟨u, rfl, rfl⟩ := xq0 r
 obtain ⟨its, rv, pl, hz⟩ := I.list hq
 have nth : ∀ (i : Nat) (v : Value), its.toArray[i]? = some v -> v = Value.bool (bs.getD i true) := fun i v e => by
  have e : its[i]? = some v := by simpa using e
  have hi : i < bs.length := by
   have := (List.getElem?_eq_some_iff.mp e).1
   have h2 := rv.length
   simp at h2
   omega
  obtain ⟨u, e2, r2⟩ := rv.get (i := i) (x := V.bl bs[i]) (by simp [hi])
  rw [e] at e2
  cases e2
  cases r2
  rw [List.getD_eq_getElem?_getD, List.getElem?_eq_getElem hi]
  rfl
 refine call_all_walk (wpAny_pyIter_list pl.isList ?_)
 have hne : p ≠ s.heap.objs.size := by
  obtain ⟨o, e, _⟩ := pl.isList
  exact Nat.ne_of_lt (Heap.lt_size e)
 refine ⟨s.heap.objs.size, _, _, _, _, _, fun i => bs.getD i true, rfl, Walks.list (A := X.A.in1) (I.ok.hd hc) s.heap.objs.size p hne its.toArray, ⟨?_, ?_⟩, ?_, ?_⟩
 ·exact ⟨_, Heap.get?_push_size _ rfl, rfl, rfl⟩
 ·obtain ⟨o, e, r⟩ := pl.isList
  exact ⟨o, Heap.get?_push_of_some _ e, r⟩
 ·intro i v s1 Q1 E1 hP hQ
  rw [nth i v hP]
  exact wpAny_truthy_bool hQ
 ·intro h' tk hk
  refine ⟨.bl _, H, I.kept (t' := tk) (h' := h') fun b o e => hk b o (fun z => ?_) (Heap.get?_push_of_some _ e), rfl, ?_⟩
  ·rw [List.mem_singleton] at z
   rw [z] at e
   exact absurd (Heap.lt_size e) (Nat.lt_irrefl _)
  ·have hl : its.toArray.size = bs.length := by have := rv.length; simp at this ⊢; omega
   rw [hl]
   have : ((List.range bs.length).all fun i => bs.getD i true) = bs.all id := by
    clear q rv nth hl hq hz
    induction bs with
    | nil => rfl
    | cons b bs ih => rw [List.length_cons, List.range_succ_eq_map, List.all_cons, List.all_map, List.all_cons, <- ih]; rfl
   rw [this]; exact q
end
theorem xo8 : bootBuiltins "all" = some (.builtin "all") := by decide +kernel
theorem comp_str {x : Str} {D : Addr} {g : TG} {te : TE} {σ0 : St} {H1 : Hp} {Q : Hp -> Prop} (f : Nat -> Bool) (ok : St -> Prop) (hD : H1 D = none) (hz : x.length <= 1000) (h0 : ok σ0)
  (hs : ∀ c σ' H (N : St -> V -> Hp -> Prop), c ∈ cs x -> ok σ' -> (∀ σ3, ok σ3 -> N σ3 (.bl (f c)) H) -> g (.str ⟨#[c]⟩) σ' H fun σ3 H3 => te σ3 H3 fun v H4 => N σ3 v H4)
  (hd : ∀ H', Same H1 H' -> H' D = some (.lst (((cs x).map f).map V.bl)) -> Q H') :
  ∃ W : Nat -> Nat -> St -> Hp -> Prop, (∃ m, W 0 m σ0 (upd H1 D (.lst []))) /\
   ∀ i m σ' H', W i m σ' H' -> ((Its x).stop i H' /\ Q H') \/ ((Its x).go i H' /\ ∀ y H2, (Its x).yld i H' y H2 -> g y σ' H2 fun σ3 H3 => te σ3 H3 fun v H4 => ∃ xs, H4 D = some (.lst xs) /\ xs.length < sizeLine /\ ∃ m', m' < m /\ W (i + 1) m' σ3 (upd H4 D (.lst (xs ++ [v])))) := by
 have sz : x.cps.size = (cs x).length := by simp [cs]
 have hz2 : (cs x).length <= 1000 := by rw [yr5]; exact hz
 refine ⟨fun i m σ' H' => m = (cs x).length - i /\ i <= (cs x).length /\ ok σ' /\ Same H1 H' /\ H' D = some (.lst ((((cs x).take i).map f).map V.bl)), ⟨_, rfl, Nat.zero_le _, h0, Same.new hD, xa1⟩, ?_⟩
 rintro i m σ' H' ⟨rfl, hi, ho, sm, hl⟩
 by_cases hlt : i < (cs x).length
 ·refine .inr ⟨by show i < x.cps.size; omega, fun y H2 yl => ?_⟩
  obtain ⟨e1, c, e2, e3⟩ := yl
  subst e1 e3
  have e2' : (cs x)[i]? = some c := by simpa [cs] using e2
  refine hs c σ' _ (fun σ3 v H4 => ∃ xs', H4 D = some (.lst xs') /\ xs'.length < sizeLine /\ ∃ m', m' < (cs x).length - i /\ _) (List.mem_of_getElem? e2') ho fun σ3 ho3 => ?_
  refine ⟨_, hl, Nat.lt_of_lt_of_le (show _ < 1001 by simp; omega) (by decide), (cs x).length - (i + 1), by omega, rfl, hlt, ho3, sm.upd hD, ?_⟩
  rw [xa1, List.take_add_one, e2', List.map_append, List.map_append]
  rfl
 ·have e : i = (cs x).length := by omega
  subst e
  refine .inl ⟨by show x.cps.size <= _; omega, hd H' sm ?_⟩
  rw [List.take_length] at hl
  exact hl
section
variable {X : Cx}
theorem yd1 : bootBuiltins "tuple" = some (.type "tuple") := by decide +kernel
theorem xj8 : bootBuiltins "list" = some (.type "list") := by decide +kernel
theorem xz0 : bootBuiltins "dict" = some (.type "dict") := by decide +kernel
theorem yt7 (K : Frag) (hK : X.K = K := by rfl) : OpR X (compareOp .In) (rIn K false) := by subst hK; exact za8
theorem sqt_of {K : Frag} {a : Addr} {od : Option Addr} {n : Nat} {sl : Array (Option Value)} {us : List Value} {xs : List V} (h : K.lookup a = some ⟨.type "tuple", od, .seq us.toArray n, sl⟩) (hl : us.length <= 1000) (r : Vals xs us) (H : Hp) : SqT K H a xs :=
 .inr ⟨_, _, _, h, rfl, rfl, by rw [List.size_toArray]; exact xd7 hl, r⟩
end
def lets : Str := Str.ofString "abcdefghijklmnopqrstuvwxyz"
def yj7 (c : Nat) : Bool := decide (97 <= c) && decide (c <= 122)
theorem lets_are : cs lets = List.range' 97 26 := by decide +kernel
theorem in_lets (c : Nat) : (!(Builtin.Str.occurrences lets ⟨#[c]⟩ 0 lets.length 1).isEmpty) = yj7 c := by
 rw [StrLaws.found_one, Bool.eq_iff_iff, decide_eq_true_eq]
 show c ∈ cs lets ↔ _
 rw [lets_are, List.mem_range'_1]
 unfold yj7
 simp only [Bool.and_eq_true, decide_eq_true_eq]
 omega
theorem yo7 {K : Frag} {H H' : Hp} {x : V} {t : Value} (h : TyOf K H x t) (s : Same H H') : TyOf K H' x t := by
 cases h with
 | non => exact .non
 | bl b => exact .bl b
 | int i => exact .int i
 | str z => exact .str z
 | flt z => exact .flt z
 | lst e => exact .lst (s _ _ e)
 | frz e => exact .frz (s _ _ e)
 | tup e => exact .tup (s _ _ e)
 | dK e => exact .dK (s _ _ e)
 | dT e => exact .dT (s _ _ e)
 | ins e a1 a2 a3 a4 a5 => exact .ins (s _ _ e) a1 a2 a3 a4 a5
structure ItemOk (e : Expr) (te : TE) : Prop where
 pe : ∀ X : Cx, PE X e te
 st : ∀ (es : List Expr) (env : Env), starEach (e :: es) env = (false, eval e env) :: starEach es env
theorem ItemOk.pa {X : Cx} {e : Expr} {te : TE} {es : List Expr} {t : TA} (i : ItemOk e te) (h : PA X es t) : PA X (e :: es) (xn4 te t) := xa0 (i.pe X) h (i.st es X.env)
theorem app_len (a b : Str) : (a ++ b).length = a.length + b.length := by rw [<- yr5, cs_app, List.length_append, yr5, yr5]
section
variable {κ : Type} [DecidableEq κ]
def valV (kvs : List (κ × V)) (k : κ) : Option V := (kvs.find? fun kv => decide (kv.1 = k)).map (·.2)
def putK (kvs : List (κ × V)) (k : κ) (v : V) : List (κ × V) :=
 if (kvs.any fun kv => decide (kv.1 = k)) = true then kvs.map (fun kv => if kv.1 = k then (kv.1, v) else kv) else kvs ++ [(k, v)]
def dropK (kvs : List (κ × V)) (k : κ) : List (κ × V) := kvs.filter fun kv => decide (kv.1 ≠ k)
theorem valV_nil {k : κ} : valV ([] : List (κ × V)) k = none := rfl
theorem xg2 {p : κ × V} {r : List (κ × V)} {k : κ} (e : p.1 = k) : valV (p :: r) k = some p.2 := by simp [valV, List.find?_cons, e]
theorem xe3 {p : κ × V} {r : List (κ × V)} {k : κ} (e : ¬ p.1 = k) : valV (p :: r) k = valV r k := by simp [valV, List.find?_cons, e]
theorem xq1 (k : κ) : ∀ kvs : List (κ × V), (kvs.any fun kv => decide (kv.1 = k)) = (valV kvs k).isSome
 | [] => rfl
 | p :: r => by
  rw [List.any_cons]
  by_cases e : p.1 = k
  ·simp only [xg2 e, decide_eq_true e, Bool.true_or, Option.isSome_some]
  ·rw [xe3 e, decide_eq_false e, Bool.false_or]; exact xq1 k r
theorem yo6 (k j : κ) (y : V) : ∀ kvs : List (κ × V), valV (kvs.map fun kv => if kv.1 = k then (kv.1, y) else kv) j = (valV kvs j).map fun x => if j = k then y else x
 | [] => rfl
 | p :: r => by
  have ih := yo6 k j y r
  rw [List.map_cons]
  by_cases h : p.1 = k
  ·rw [if_pos h]
   by_cases e : p.1 = j
   ·rw [xg2 (p := (p.1, y)) e, xg2 e, Option.map_some, if_pos (e.symm.trans h)]
   ·rw [xe3 (p := (p.1, y)) e, xe3 e, ih]
  ·rw [if_neg h]
   by_cases e : p.1 = j
   ·rw [xg2 (p := p) e, xg2 e, Option.map_some, if_neg (fun z => h (e.trans z))]
   ·rw [xe3 (p := p) e, xe3 e, ih]
theorem yg9 (k j : κ) (y : V) : ∀ kvs : List (κ × V), valV kvs k = none -> valV (kvs ++ [(k, y)]) j = if j = k then some y else valV kvs j
 | [], _ => by
  by_cases e : k = j
  ·rw [if_pos e.symm]; exact xg2 (p := (k, y)) e
  ·rw [if_neg (fun z => e z.symm)]; exact xe3 (p := (k, y)) e
 | p :: r, hn => by
  rw [List.cons_append]
  have hk : ¬ p.1 = k := fun z => by rw [xg2 z] at hn; cases hn
  rw [xe3 hk] at hn
  have ih := yg9 k j y r hn
  by_cases e : p.1 = j
  ·rw [xg2 e, xg2 e, if_neg (fun z => hk (e.trans z))]
  ·rw [xe3 e, xe3 e, ih]
theorem valV_put (kvs : List (κ × V)) (k j : κ) (y : V) : valV (putK kvs k y) j = if j = k then some y else valV kvs j := by
 unfold putK
 by_cases a : (kvs.any fun kv => decide (kv.1 = k)) = true
 ·rw [if_pos a, yo6]
  rw [xq1] at a
  by_cases e : j = k
  ·obtain ⟨x, hx⟩ := Option.isSome_iff_exists.mp a
   rw [if_pos e, e, hx, Option.map_some, if_pos rfl]
  ·rw [if_neg e]
   cases valV kvs j with
   | none => rfl
   | some x => rw [Option.map_some, if_neg e]
 ·rw [if_neg a]
  refine yg9 k j y kvs ?_
  rw [xq1] at a
  cases q : valV kvs k with
  | none => rfl
  | some x => rw [q] at a; exact (a rfl).elim
theorem xm7 (kvs : List (κ × V)) (k : κ) (v : V) : (putK kvs k v).length <= kvs.length + 1 := by
 unfold putK
 split
 ·rw [List.length_map]; omega
 ·rw [List.length_append, List.length_cons, List.length_nil]; omega
theorem yd6 {kvs : List (κ × V)} {k : κ} (v : V) (h : valV kvs k = none) : putK kvs k v = kvs ++ [(k, v)] := by
 unfold putK
 rw [xq1, h]
 exact if_neg (by decide)
theorem RelO.isSome_eq {o : Option V} {u : Option Value} (r : RelO o u) : o.isSome = u.isSome := by
 cases o with
 | none => cases u with
  | none => rfl
  | some _ => exact (show False from r).elim
 | some _ => cases u with
  | none => exact (show False from r).elim
  | some _ => rfl
theorem RelO.getD {o : Option V} {u : Option Value} {d : V} {d' : Value} (r : RelO o u) (rd : RelV d d') : RelV (o.getD d) (u.getD d') := by
 cases o with
 | none => cases u with
  | none => exact rd
  | some _ => exact (show False from r).elim
 | some _ => cases u with
  | none => exact (show False from r).elim
  | some _ => exact r
theorem KV.val {kvs : List (κ × V)} {vs : List (κ × Value)} (r : KV kvs vs) (k : κ) : RelO (valV kvs k) (valueAt vs k) := by
 unfold KV at r
 induction r with
 | nil => exact True.intro
 | @cons p q ps qs h t ih =>
  obtain ⟨h1, h2⟩ := h
  by_cases e : p.1 = k
  ·have e' : q.1 = k := h1.symm.trans e
   have b : valueAt (q :: qs) k = some q.2 := by simp [valueAt, List.find?_cons, e']
   rw [xg2 e, b]; exact h2
  ·have e' : ¬ q.1 = k := fun z => e (h1.trans z)
   have b : valueAt (q :: qs) k = valueAt qs k := by simp [valueAt, List.find?_cons, e']
   rw [xe3 e, b]; exact ih
theorem KV.any {kvs : List (κ × V)} {vs : List (κ × Value)} (r : KV kvs vs) (k : κ) : (kvs.any fun kv => decide (kv.1 = k)) = vs.any fun kv => decide (kv.1 = k) := by
 unfold KV at r
 induction r with
 | nil => rfl
 | cons h t ih => rw [List.any_cons, List.any_cons, ih, h.1]
theorem KV.repl {kvs : List (κ × V)} {vs : List (κ × Value)} (r : KV kvs vs) (k : κ) {y : V} {u : Value} (ry : RelV y u) :
  KV (kvs.map fun kv => if kv.1 = k then (kv.1, y) else kv) (vs.map fun kv => if kv.1 = k then (kv.1, u) else kv) := by
 unfold KV at r ⊢
 induction r with
 | nil => exact .nil
 | @cons p q ps qs h t ih =>
  rw [List.map_cons, List.map_cons]
  refine .cons ?_ ih
  obtain ⟨h1, h2⟩ := h
  by_cases e : p.1 = k
  ·rw [if_pos e, if_pos (h1.symm.trans e)]; exact ⟨h1, ry⟩
  ·rw [if_neg e, if_neg (fun z => e (h1.trans z))]; exact ⟨h1, h2⟩
theorem KV.put {kvs : List (κ × V)} {vs : List (κ × Value)} (r : KV kvs vs) (k : κ) {y : V} {u : Value} (ry : RelV y u) : KV (putK kvs k y) (stored vs k u) := by
 unfold putK stored
 rw [r.any k]
 by_cases e : (vs.any fun kv => decide (kv.1 = k)) = true
 ·rw [if_pos e, if_pos e]; exact r.repl k ry
 ·rw [if_neg e, if_neg e]; exact Paired.snoc r ⟨rfl, ry⟩
theorem KV.drop {kvs : List (κ × V)} {vs : List (κ × Value)} (r : KV kvs vs) (k : κ) : KV (dropK kvs k) (without vs k) := by
 unfold KV at r ⊢
 unfold dropK without
 induction r with
 | nil => exact .nil
 | @cons p q ps qs h t ih =>
  obtain ⟨h1, h2⟩ := h
  rw [List.filter_cons, List.filter_cons]
  by_cases e : p.1 = k
  ·have a : ¬ decide (p.1 ≠ k) = true := by simp [e]
   have b : ¬ decide (q.1 ≠ k) = true := by simp [h1.symm.trans e]
   rw [if_neg a, if_neg b]; exact ih
  ·have e' : ¬ q.1 = k := fun z => e (h1.trans z)
   have a : decide (p.1 ≠ k) = true := by simp [e]
   have b : decide (q.1 ≠ k) = true := by simp [e']
   rw [if_pos a, if_pos b]; exact .cons ⟨h1, h2⟩ ih
theorem KV.keys {kvs : List (κ × V)} {vs : List (κ × Value)} (r : KV kvs vs) : kvs.map (·.1) = vs.map (·.1) := by
 unfold KV at r
 induction r with
 | nil => rfl
 | cons h t ih => rw [List.map_cons, List.map_cons, ih, h.1]
theorem KV.length {kvs : List (κ × V)} {vs : List (κ × Value)} (r : KV kvs vs) : kvs.length = vs.length := Paired.length r
end
theorem kV_is {P : Program} {w : World} {k : Key} {u : Value} (r : RelV (kV k) u) : (xd6 P w).is k u = true := by
 cases k with
 | inl i => obtain ⟨t, e⟩ := (show ∃ t, u = Value.int i t from r); subst e; exact yn6 P w i t
 | inr x => obtain ⟨t, e⟩ := (show ∃ t, u = Value.str x t from r); subst e; exact yn5 P w x t
theorem yj5 {P : Program} {w : World} : ∀ {ks : List Key} {us : List Value}, Vals (ks.map kV) us -> ItemsAre (xd6 P w) ks us
 | [], _, r => by rw [List.map_nil] at r; cases r; exact .nil
 | k :: ks, _, r => by
  rw [List.map_cons] at r
  cases r with
  | cons h t => exact .cons (kV_is h) (yj5 t)
abbrev KT (H : Hp) : List (List Key × V) -> List (List Key × Addr × Value) -> Prop := Paired fun p q => p.1 = q.1 /\ H q.2.1 = some (.tup (p.1.map kV)) /\ RelV p.2 q.2.2
theorem KT.val {H : Hp} {kvs : List (List Key × V)} {xs : List (List Key × Addr × Value)} (r : KT H kvs xs) (k : List Key) : RelO (valV kvs k) ((atKey xs k).map (·.2)) := by
 induction r with
 | nil => exact True.intro
 | @cons p q ps qs h t ih =>
  obtain ⟨h1, _, h2⟩ := h
  by_cases e : p.1 = k
  ·have e' : q.1 = k := h1.symm.trans e
   have b : atKey (q :: qs) k = some q.2 := by simp [atKey, List.find?_cons, e']
   rw [xg2 e, b]; exact h2
  ·have e' : ¬ q.1 = k := fun z => e (h1.trans z)
   have b : atKey (q :: qs) k = atKey qs k := by simp [atKey, List.find?_cons, e']
   rw [xe3 e, b]; exact ih
theorem KT.repl {H : Hp} {kvs : List (List Key × V)} {xs : List (List Key × Addr × Value)} (r : KT H kvs xs) (k : List Key) {y : V} {u : Value} (ry : RelV y u) :
  KT H (kvs.map fun kv => if kv.1 = k then (kv.1, y) else kv) (xs.map (putAt k u)) := by
 induction r with
 | nil => exact .nil
 | @cons p q ps qs h t ih =>
  rw [List.map_cons, List.map_cons]
  refine .cons ?_ ih
  obtain ⟨h1, h2, h3⟩ := h
  unfold putAt
  by_cases e : p.1 = k
  ·rw [if_pos e, if_pos (h1.symm.trans e)]; exact ⟨h1, h2, ry⟩
  ·rw [if_neg e, if_neg (fun z => e (h1.trans z))]; exact ⟨h1, h2, h3⟩
theorem KT.put {H : Hp} {kvs : List (List Key × V)} {xs : List (List Key × Addr × Value)} (r : KT H kvs xs) (k : List Key) {b : Addr} {y : V} {u : Value} (hb : H b = some (.tup (k.map kV))) (ry : RelV y u) :
  KT H (putK kvs k y) (storedH xs k b u) := by
 have e : (kvs.any fun kv => decide (kv.1 = k)) = (atKey xs k).isSome := by
  rw [xq1, (r.val k).isSome_eq, Option.isSome_map]
 unfold putK storedH
 rw [e]
 by_cases q : (atKey xs k).isSome = true
 ·rw [if_pos q, if_pos q]; exact r.repl k ry
 ·rw [if_neg q, if_neg q]; exact Paired.snoc r ⟨rfl, hb, ry⟩
theorem KT.keeps {H H' : Hp} {kvs : List (List Key × V)} {xs : List (List Key × Addr × Value)} (r : KT H kvs xs) (ht : ∀ b ys, H b = some (.tup ys) -> H' b = some (.tup ys)) : KT H' kvs xs :=
 Paired.mapP r fun _ _ z => ⟨z.1, ht _ _ z.2.1, z.2.2⟩
section
variable {P : Program} {w : World} {H : Hp} {h : Heap} {a : Addr}
theorem rd_of {u : HO} (ok : HOk P w H h) (e : Rd H a u) : xd4 P w H h a u := e.ok ok
theorem dk_rd {kvs : List (Key × V)} (ok : HOk P w H h) (e : Rd H a (.dK kvs)) : kvs.length <= sizeLine /\ (a == sysModules) = false /\ ∃ vs, KV kvs vs /\ h.DictOf (xd6 P w) a vs :=
 show xd4 P w H h a (.dK kvs) from rd_of ok e
theorem dk_of {kvs : List (Key × V)} (ok : HOk P w H h) (e : H a = some (.dK kvs)) : kvs.length <= sizeLine /\ (a == sysModules) = false /\ ∃ vs, KV kvs vs /\ h.DictOf (xd6 P w) a vs := dk_rd ok (.inl e)
theorem yc3 {ks : List Key} (ok : HOk P w H h) (e : H a = some (.tup (ks.map kV))) : (tupleKind (xd6 P w)).is h ks a := by
 obtain ⟨_, its, r, o, h1, h2, n, h3⟩ := (show xd4 P w H h a (.tup (ks.map kV)) from ok a _ e)
 exact ⟨o, its.toArray, n, h1, h2, h3, by simpa using yj5 r⟩
theorem dt_rd {kvs : List (List Key × V)} (ok : HOk P w H h) (e : Rd H a (.dT kvs)) : kvs.length <= sizeLine /\ (a == sysModules) = false /\
  ∃ xs, KT H kvs xs /\ h.DictOfH (tupleKind (xd6 P w)) a xs := by
 obtain ⟨z, y, xs, r, o, es, ep, h1, h2, h3, h4, h5⟩ := (show xd4 P w H h a (.dT kvs) from rd_of ok e)
 refine ⟨z, y, xs, r, o, es, ep, h1, h2, h3, h4, fun x hx => ?_, h5⟩
 have all : ∀ {l : List (List Key × V)} {m : List (List Key × Addr × Value)}, KT H l m -> ∀ x ∈ m, (tupleKind (xd6 P w)).is h x.1 x.2.1 := by
  intro l m q
  induction q with
  | nil => intro x hx; exact nomatch hx
  | @cons p q ps qs hq t ih =>
   intro x hx
   rcases List.mem_cons.mp hx with e | hx
   ·subst e
    exact yc3 ok (by rw [<- hq.1]; exact hq.2.1)
   ·exact ih x hx
 exact all r x hx
theorem dt_of {kvs : List (List Key × V)} (ok : HOk P w H h) (e : H a = some (.dT kvs)) : kvs.length <= sizeLine /\ (a == sysModules) = false /\
  ∃ xs, KT H kvs xs /\ h.DictOfH (tupleKind (xd6 P w)) a xs := dt_rd ok (.inl e)
end
def DGet (H : Hp) (a : Addr) (y : V) (r : Option V) : Prop :=
 (∃ kvs k, Rd H a (.dK kvs) /\ y = kV k /\ r = valV kvs k) \/ ∃ kvs k b, Rd H a (.dT kvs) /\ y = .ref b /\ H b = some (.tup (k.map kV)) /\ r = valV kvs k
def DPut (H : Hp) (a : Addr) (y v : V) (H' : Hp) : Prop :=
 (∃ kvs k, H a = some (.dK kvs) /\ y = kV k /\ kvs.length < sizeLine /\ H' = upd H a (.dK (putK kvs k v))) \/
 ∃ kvs k b, H a = some (.dT kvs) /\ y = .ref b /\ H b = some (.tup (k.map kV)) /\ kvs.length < sizeLine /\ H' = upd H a (.dT (putK kvs k v))
theorem DGet.k {H : Hp} {a : Addr} {kvs : List (Key × V)} {k : Key} (e : H a = some (.dK kvs)) : DGet H a (kV k) (valV kvs k) := .inl ⟨kvs, k, .inl e, rfl, rfl⟩
theorem DGet.t {H : Hp} {a b : Addr} {kvs : List (List Key × V)} {k : List Key} (e : H a = some (.dT kvs)) (eb : H b = some (.tup (k.map kV))) : DGet H a (.ref b) (valV kvs k) := .inr ⟨kvs, k, b, .inl e, rfl, eb, rfl⟩
theorem DPut.k {H : Hp} {a : Addr} {kvs : List (Key × V)} {k : Key} {v : V} (e : H a = some (.dK kvs)) (hl : kvs.length < sizeLine) : DPut H a (kV k) v (upd H a (.dK (putK kvs k v))) := .inl ⟨kvs, k, e, rfl, hl, rfl⟩
theorem DPut.t {H : Hp} {a b : Addr} {kvs : List (List Key × V)} {k : List Key} {v : V} (e : H a = some (.dT kvs)) (eb : H b = some (.tup (k.map kV))) (hl : kvs.length < sizeLine) :
  DPut H a (.ref b) v (upd H a (.dT (putK kvs k v))) := .inr ⟨kvs, k, b, e, rfl, eb, hl, rfl⟩
section
variable {X : Cx} {pins : List (Addr × Obj)} {σ : St} {H : Hp} {s : Shared} {a : Addr} {y v : V} {u r : Value} {o : Option V} {A : Around} {E : Value -> Shared -> Prop}
theorem Inv.big (I : Inv X pins σ H s) : sysModules < s.heap.objs.size := by
 have h : mainGlobals < s.heap.objs.size := (I.mod.glob.keeps I.bk).lt
 exact Nat.lt_trans (by decide) h
theorem d_notIn {Q : Value -> Shared -> Prop} (hu : A.units + 1 < cLine) (I : Inv X pins σ H s) (g : DGet H a y o) (ry : RelV y u) (h : ∀ s', Inv X pins σ H s' -> Q (.bool (!o.isSome)) s') :
  wpAny (model X.prog X.w) A (compareOp .NotIn u (.ref a)) Q E s := by
 rcases g with ⟨kvs, k, e, ey, l⟩ | ⟨kvs, k, b, e, ey, eb, l⟩
 ·subst ey
  obtain ⟨z, hd, vs, rel, dd⟩ := dk_rd I.hok e
  refine wpAny_notIn_of (kV_is ry) hd dd.mapOf ?_
  rw [<- (rel.val k).isSome_eq, <- l]
  exact h _ (I.tok _)
 ·subst ey
  cases (show u = Value.ref b from ry)
  obtain ⟨z, hd, xs, rel, dd⟩ := dt_rd I.hok e
  refine wpAny_notIn_heap (tupleKind_room_in1 hu) (yc3 I.hok eb) hd dd ?_
  have q := (rel.val k).isSome_eq
  rw [Option.isSome_map] at q
  rw [<- q, <- l]
  exact h _ (I.tok _)
theorem yo1 {h' : Heap} {t' : Nat} {ob : HO} (I : Inv X pins σ H s) (mu : Mut (H a)) (hs : Heap.SameBut a s.heap h') (he : ∃ q, h'.get? a = some q) (new : xd4 X.prog X.w (upd H a ob) h' a ob) :
  Inv X pins σ (upd H a ob) { s with heap := h', toks := t' } :=
 I.write (x := a) (e := a) mu (.inl rfl) (fun b q hb z => (hs.2 b hb).trans z) he new
theorem dk_new {P : Program} {w : World} {H' : Hp} {h' : Heap} {kvs : List (Key × V)} {vs : List (Key × Value)} (z : kvs.length <= sizeLine) (hd : (a == sysModules) = false) (rel : KV kvs vs) (dd : h'.DictOf (xd6 P w) a vs) :
  xd4 P w H' h' a (.dK kvs) := ⟨z, hd, vs, rel, dd⟩
theorem ze3 {H' : Hp} {Q : Unit -> Shared -> Prop} (hu : A.units + 1 < cLine) (I : Inv X pins σ H s) (g : DPut H a y v H') (ry : RelV y u) (rv : RelV v r) (h : ∀ s', Inv X pins σ H' s' -> Q () s') :
  wpAny (model X.prog X.w) A (setItem (.ref a) u r) Q E s := by
 rcases g with ⟨kvs, k, e, ey, l, eH⟩ | ⟨kvs, k, b, e, ey, eb, l, eH⟩
 ·subst ey eH
  obtain ⟨z, hd, vs, rel, dd⟩ := dk_of I.hok e
  have hz : vs.length <= sizeLine := by rw [<- rel.length]; exact z
  have hl : (putK kvs k v).length <= sizeLine := by have := xm7 kvs k v; omega
  refine wpAny_setItem_pairs (hsz := hz) (kV_is ry) dd fun h' dd' hs => h _ ?_
  have he : ∃ q, h'.get? a = some q := let ⟨q, _, _, hq, _⟩ := dd'; ⟨q, hq⟩
  exact yo1 I (by rw [e]; exact True.intro) hs he (dk_new hl hd (rel.put k rv) dd')
 ·subst ey eH
  cases (show u = Value.ref b from ry)
  obtain ⟨z, hd, xs, rel, dd⟩ := dt_of I.hok e
  have hz : xs.length <= sizeLine := by rw [<- Paired.length rel]; exact z
  have hl : (putK kvs k v).length <= sizeLine := by have := xm7 kvs k v; omega
  refine wpAny_setItem_heap (hsz := hz) (tupleKind_room_in1 hu) (yc3 I.hok eb) dd fun h' dd' hs => h _ ?_
  obtain ⟨q, es, ep, hq, h2, h3, h4, _, h5⟩ := dd'
  refine yo1 I (by rw [e]; exact True.intro) hs ⟨q, hq⟩ ⟨hl, hd, _, (rel.put k eb rv).keeps fun c ys ec => ?_, q, es, ep, hq, h2, h3, h4, h5⟩
  rw [xa3 (xk0 ec e (fun z => nomatch z))]
  exact ec
end
section
variable {X : Cx} {pins : List (Addr × Obj)} {σ : St} {H : Hp} {s : Shared} {a : Addr} {kvs : List (Key × V)} {k : Key} {u : Value} {A : Around} {E : Value -> Shared -> Prop}
end
def tDNotIn (ty td : TE) : TE := fun σ H Q => ty σ H fun y H1 => td σ H1 fun x H2 => ∃ a o, x = .ref a /\ DGet H2 a y o /\ Q (.bl (!o.isSome)) H2
def sDPut (td ty tv : TE) : TS := fun D σ H => tv σ H fun v H1 => td σ H1 fun x H2 => ty σ H2 fun y H3 => ∃ a H4, x = .ref a /\ DPut H3 a y v H4 /\ D.nx σ H4
section
variable {X : Cx} {o i e value : Expr} {pos pos' tpos : Pos} {td ty tv : TE}
theorem za3 (hu : X.A.units + 1 < cLine) (hi : PE X i ty) (ho : PE X o td) : PC X .NotIn i o (tDNotIn ty td) := by
 intro pins s σ H Q I h
 refine thn (hi pins s σ H _ I h) fun iv s1 ⟨y, H1, I1, ry, q1⟩ => thn (ho pins s1 σ H1 _ I1 q1) fun u s2 ⟨x, H2, I2, rx, a, ov, ex, g, q2⟩ => ?_
 subst ex
 obtain rfl : u = Value.ref a := rx
 exact d_notIn hu I2 g ry fun s3 I3 => ⟨.bl (!ov.isSome), H2, I3, rfl, q2⟩
theorem yz2 (hu : X.A.units + 1 < cLine) (ho : PE X o td) (hi : PE X i ty) (hv : PE X value tv) (hs : swapsWith value (some (.Subscript o i pos')) pos.line X.env = pure false) :
  PS X (.Assign [.Subscript o i pos'] value pos) (sDPut td ty tv) := by
 intro pins s σ H D I h
 refine wpAny_Assign_Subscript (thn (hv pins s σ H _ I h) fun r s1 ⟨v, H1, I1, rv, q1⟩ => thn (ho pins s1 σ H1 _ I1 q1) fun u s2 ⟨x, H2, I2, rx, q2⟩ => thn (hi pins s2 σ H2 _ I2 q2) fun iv s3 ⟨y, H3, I3, ry, a, H4, ex, g, q3⟩ => ?_) hs
 subst ex
 obtain rfl : u = Value.ref a := rx
 exact ze3 hu I3 g ry rv fun s4 I4 => ⟨σ, H4, I4, q3⟩
end
theorem yr3 {P : Program} {w : World} {H : Hp} (h : Heap) (hb : sysModules < h.objs.size) : xd4 P w H (h.push { cls := .type "dict", data := .dict #[] }) h.objs.size (.dT []) :=
 ⟨Nat.zero_le _, beq_eq_false_iff_ne.mpr (Ne.symm (Nat.ne_of_lt hb)), [], .nil, _, #[], 0, Heap.get?_push_size _ rfl, ⟨rfl, rfl, rfl⟩, rfl, rfl, List.nodup_nil⟩
def yx3 : TE := fun _ H Q => ∀ p, H p = none -> Q (.ref p) (upd H p (.dT []))
section
variable {X : Cx} {pos : Pos}
theorem xh6 : PE X (.Dict [] [] pos) yx3 := fun pins s σ H Q I h =>
 wpAny_Dict_empty ⟨.ref s.heap.objs.size, _, I.laid (a := s.heap.objs.size) (o := .dT []) (t' := s.toks) (fun _ _ q => Heap.get?_push_of_some _ q) (Nat.le_refl _) (yr3 s.heap I.big), rfl, h _ (I.hok.fresh (Nat.le_refl _))⟩
end
def mergeK (kvs more : List (Key × V)) : List (Key × V) := more.foldl (fun acc kv => putK acc kv.1 kv.2) kvs
theorem KV.merge : ∀ {more : List (Key × V)} {rs : List (Key × Value)} {kvs : List (Key × V)} {vs : List (Key × Value)}, KV more rs -> KV kvs vs -> KV (mergeK kvs more) (merged vs rs) := by
 intro more rs kvs vs r
 unfold KV at r
 induction r generalizing kvs vs with
 | nil => intro q; exact q
 | @cons p q ps qs h t ih =>
  intro r0
  have e : KV (putK kvs p.1 p.2) (stored vs q.1 q.2) := by
   have := r0.put p.1 h.2
   rw [<- h.1]; exact this
  exact ih e
structure M1 (X : Cx) (o : Expr) (m : Str) (apos : Pos) (e : Expr) (cpos : Pos) : Prop where
 base : attributeBase o m X.env (eval o X.env) = eval o X.env
 few : ((backTo cpos (starEach [e] X.env)).all (fun x => !x.1) && (backToKw cpos (keywordEach [] X.env)).all (fun x => x.1.isSome)
  && decide (([e] : List Expr).length + ([] : List Keyword).length + (if ([] : List Keyword).isEmpty then 0 else 1) < 30)) = true
 line : (apos.endLine == cpos.line) = true
 trees : backTo cpos (starEach [e] X.env) = [(false, eval e X.env)]
structure M2 (X : Cx) (o : Expr) (m : Str) (apos : Pos) (e f : Expr) (cpos : Pos) : Prop where
 base : attributeBase o m X.env (eval o X.env) = eval o X.env
 few : ((backTo cpos (starEach [e, f] X.env)).all (fun x => !x.1) && (backToKw cpos (keywordEach [] X.env)).all (fun x => x.1.isSome)
  && decide (([e, f] : List Expr).length + ([] : List Keyword).length + (if ([] : List Keyword).isEmpty then 0 else 1) < 30)) = true
 line : (apos.endLine == cpos.line) = true
 trees : backTo cpos (starEach [e, f] X.env) = [(false, eval e X.env), (false, eval f X.env)]
section
variable {X : Cx} {pins : List (Addr × Obj)} {σ : St} {H : Hp} {s : Shared} {a : Addr} {y d : V} {u r : Value} {o : Option V} {A : Around} {E : Value -> Shared -> Prop}
end
section
variable {X : Cx} {o e f : Expr} {apos cpos : Pos} {td ty tx : TE}
end
section
variable {X : Cx} {pins : List (Addr × Obj)} {σ : St} {H : Hp} {s : Shared} {a : Addr} {kvs : List (Key × V)} {A : Around} {E : Value -> Shared -> Prop}
end
section
variable {X : Cx} {pins : List (Addr × Obj)} {σ : St} {H : Hp} {s : Shared} {a : Addr} {y : V} {u : Value} {A : Around} {E : Value -> Shared -> Prop}
end
end L2
namespace LS
open PySem
def Lo (l : List Nat) (j r : Nat) : Prop := r <= l.length /\ (∀ (k v : Nat), k < r -> l[k]? = some v -> v < j) /\ ∀ (k v : Nat), r <= k -> l[k]? = some v -> j <= v
theorem below_go {xs : Array Nat} {j : Nat} (hp : xs.toList.Pairwise (· < ·)) : ∀ (fuel lo hi : Nat), lo <= hi -> hi <= xs.size -> hi - lo <= fuel ->
  (∀ (k v : Nat), k < lo -> xs.toList[k]? = some v -> v < j) -> (∀ (k v : Nat), hi <= k -> xs.toList[k]? = some v -> j <= v) -> Lo xs.toList j (SetTable.below.go xs j fuel lo hi) := by
 intro fuel
 induction fuel with
 | zero =>
  intro lo hi h1 h2 h3 h4 h5
  unfold SetTable.below.go
  exact ⟨by simp; omega, h4, fun k v hk => h5 k v (by omega)⟩
 | succ fuel ih =>
  intro lo hi h1 h2 h3 h4 h5
  unfold SetTable.below.go
  by_cases c : lo < hi
  ·rw [if_pos c]
   have hm : (lo + hi) / 2 < xs.size := by omega
   have eg : xs.toList[(lo + hi) / 2]? = some (xs.getD ((lo + hi) / 2) j) := by
    rw [Array.getD_eq_getD_getElem?, Array.getElem?_eq_getElem hm]
    simp [hm]
   have mono : ∀ (a b u v : Nat), a < b -> xs.toList[a]? = some u -> xs.toList[b]? = some v -> u < v := fun a b u v hab ha hb => by
    obtain ⟨la, ea⟩ := List.getElem?_eq_some_iff.mp ha
    obtain ⟨lb, eb⟩ := List.getElem?_eq_some_iff.mp hb
    have := List.pairwise_iff_getElem.mp hp a b la lb hab
    rw [ea, eb] at this
    exact this
   dsimp only
   by_cases d : xs.getD ((lo + hi) / 2) j < j
   ·rw [if_pos d]
    refine ih _ _ (by omega) h2 (by omega) (fun k v hk e => ?_) h5
    by_cases kk : k = (lo + hi) / 2
    ·subst kk; rw [eg] at e; cases e; exact d
    ·exact Nat.lt_trans (mono _ _ _ _ (by omega) e eg) d
   ·rw [if_neg d]
    refine ih _ _ (by omega) (by omega) (by omega) h4 (fun k v hk e => ?_)
    by_cases kk : k = (lo + hi) / 2
    ·subst kk; rw [eg] at e; cases e; omega
    ·have := mono _ _ _ _ (show (lo + hi) / 2 < k by omega) eg e
     omega
  ·rw [if_neg c]
   exact ⟨by simp; omega, h4, fun k v hk => h5 k v (by omega)⟩
theorem xu7 {xs : Array Nat} (hp : xs.toList.Pairwise (· < ·)) (j : Nat) : Lo xs.toList j (SetTable.below xs j) := by
 unfold SetTable.below
 refine below_go hp _ _ _ (Nat.zero_le _) (Nat.le_refl _) (by omega) (fun k v hk => absurd hk (by omega)) (fun k v hk e => ?_)
 have := (List.getElem?_eq_some_iff.mp e).1
 simp at this
 omega
theorem below_at {xs : Array Nat} (hp : xs.toList.Pairwise (· < ·)) {i j : Nat} (h : xs.toList[i]? = some j) : SetTable.below xs j = i := by
 obtain ⟨h1, h2, h3⟩ := xu7 hp j
 rcases Nat.lt_trichotomy (SetTable.below xs j) i with c | c | c
 ·-- the one at r is at least j, the one at i above it
  obtain ⟨li, ei⟩ := List.getElem?_eq_some_iff.mp h
  have lr : SetTable.below xs j < xs.toList.length := by omega
  have := h3 _ _ (Nat.le_refl _) (List.getElem?_eq_getElem lr)
  have q := List.pairwise_iff_getElem.mp hp _ _ lr li c
  omega
 ·exact c
 ·exact absurd (h2 _ _ c h) (by omega)
theorem xv1 {t : SetTable} (hp : t.place.toList.Pairwise (· < ·)) {i j : Nat} (h : t.place.toList[i]? = some j) : t.slot j = .live i := by
 unfold SetTable.slot
 dsimp only
 rw [below_at hp h]
 have : t.place[i]? = some j := by rw [<- h]; simp
 rw [this]
 simp
theorem yx9 {t : SetTable} (hd : t.dummies = #[]) {j : Nat} (h : j ∉ t.place.toList) : t.slot j = .empty := by
 unfold SetTable.slot
 dsimp only
 have a : (t.place[SetTable.below t.place j]? == some j) = false := by
  rw [Bool.eq_false_iff]
  intro e
  have e := eq_of_beq e
  exact h (List.mem_of_getElem? (i := SetTable.below t.place j) (by rw [<- e]; simp))
 rw [a, hd]
 simp [SetTable.has]
theorem xr6 {α : Type} (xs : Array α) (p : Nat) (x : α) (hp : p <= xs.size) : (SetTable.insertAt xs p x).toList = xs.toList.take p ++ x :: xs.toList.drop p := by
 unfold SetTable.insertAt
 simp [Array.toList_extract]; exact List.take_of_length_le (by simp)
theorem yi4 {l : List Nat} {j r : Nat} (hp : l.Pairwise (· < ·)) (lo : Lo l j r) (hj : j ∉ l) : (l.take r ++ j :: l.drop r).Pairwise (· < ·) := by
 obtain ⟨h1, h2, h3⟩ := lo
 have a : ∀ x ∈ l.take r, x < j := fun x hx => by
  obtain ⟨k, hk⟩ := List.getElem?_of_mem hx
  rw [List.getElem?_take] at hk
  split at hk
  ·exact h2 k x (by assumption) hk
  ·cases hk
 have b : ∀ x ∈ l.drop r, j < x := fun x hx => by
  obtain ⟨k, hk⟩ := List.getElem?_of_mem hx
  rw [List.getElem?_drop] at hk
  have := h3 _ x (by omega) hk
  rcases Nat.lt_or_eq_of_le this with z | z
  ·exact z
  ·exact absurd (by rw [z]; exact List.mem_of_getElem? hk) hj
 rw [List.pairwise_append]
 refine ⟨hp.sublist (List.take_sublist _ _), List.pairwise_cons.mpr ⟨fun x hx => b x hx, hp.sublist (List.drop_sublist _ _)⟩, fun x hx y hy => ?_⟩; rcases List.mem_cons.mp hy with rfl | hy
 ·exact a x hx
 ·exact Nat.lt_trans (a x hx) (b y hy)
def adv (mask : Nat) (p : SetTable.Probe) : SetTable.Probe := SetTable.advance { SetTable.fresh 0 0 false with mask := mask } p
def advs (mask : Nat) (p : SetTable.Probe) : Nat -> SetTable.Probe
 | 0 => p
 | n + 1 => adv mask (advs mask p n)
theorem xs2 (mask : Nat) (p : SetTable.Probe) (n : Nat) : ∀ m, advs mask (advs mask p n) m = advs mask p (n + m)
 | 0 => rfl
 | m + 1 => by rw [advs, xs2 mask p n m]; rfl
theorem yf9 (mask : Nat) (p : SetTable.Probe) : ∀ n, n <= p.more -> advs mask p n = { p with j := p.j + n, more := p.more - n }
 | 0, _ => rfl
 | n + 1, h => by
  rw [advs, yf9 mask p n (by omega)]
  unfold adv SetTable.advance; dsimp only
  rw [if_pos (show p.more - n > 0 by omega)]
  congr 1
def at0 (mask i pt : Nat) (d : Option Nat) : SetTable.Probe := { j := i, more := SetTable.runEnd mask i - i, i := i, perturb := pt, dummy := d }
theorem run9 (mask i : Nat) : SetTable.runEnd mask i - i <= 9 := by
 unfold SetTable.runEnd
 split <;> omega
def xi2 (mask i pt : Nat) : Nat -> Nat × Nat
 | 0 => (i, pt)
 | n + 1 => SetTable.leap mask (xi2 mask i pt n).1 (xi2 mask i pt n).2
theorem xz2 (mask : Nat) (p : SetTable.Probe) : advs mask p (p.more + 1) = at0 mask (SetTable.leap mask p.i p.perturb).1 (SetTable.leap mask p.i p.perturb).2 p.dummy := by
 rw [advs, yf9 mask p p.more (Nat.le_refl _)]
 unfold adv SetTable.advance; dsimp only
 rw [if_neg (by simp)]
 rfl
theorem yd2 (mask : Nat) (p : SetTable.Probe) (hm : p.more <= 9) : ∀ n, ∃ k, k <= 10 * (n + 1) /\ advs mask p k = at0 mask (xi2 mask p.i p.perturb (n + 1)).1 (xi2 mask p.i p.perturb (n + 1)).2 p.dummy
 | 0 => ⟨p.more + 1, by omega, xz2 mask p⟩
 | n + 1 => by
  obtain ⟨k, hk, e⟩ := yd2 mask p hm n
  generalize hl : xi2 mask p.i p.perturb (n + 1) = l at e
  have := xz2 mask (at0 mask l.1 l.2 p.dummy)
  refine ⟨k + ((at0 mask l.1 l.2 p.dummy).more + 1), ?_, ?_⟩
  ·have := run9 mask l.1
   show k + (SetTable.runEnd mask l.1 - l.1 + 1) <= _
   omega
  ·rw [<- xs2, e, this, xi2, hl]
   rfl
theorem yq2 (mask i pt : Nat) : ∀ n, (xi2 mask i pt n).2 = pt / 32 ^ n
 | 0 => by simp [xi2]
 | n + 1 => by
  rw [xi2]
  show (xi2 mask i pt n).2 / 32 = _
  rw [yq2 mask i pt n, Nat.div_div_eq_div_mul, Nat.pow_succ]
theorem yu8 (mask i pt : Nat) (h : pt < 2 ^ 64) {n : Nat} (hn : 13 <= n) : (xi2 mask i pt n).2 = 0 := by
 rw [yq2]
 refine Nat.div_eq_of_lt (Nat.lt_of_lt_of_le h ?_)
 exact Nat.le_trans (show 2 ^ 64 <= 32 ^ 13 by decide) (Nat.pow_le_pow_right (by decide) hn)
def cyc (N i : Nat) : Nat -> Nat
 | 0 => i
 | n + 1 => (cyc N i n * 5 + 1) % N
theorem xy3 (N i n : Nat) : ∀ m, cyc N (cyc N i n) m = cyc N i (n + m)
 | 0 => rfl
 | m + 1 => by rw [cyc, xy3 N i n m]; rfl
theorem xx5 (mask i pt : Nat) (h : pt < 2 ^ 64) : ∀ n, (xi2 mask i pt (13 + n)).1 = cyc (mask + 1) (xi2 mask i pt 13).1 n
 | 0 => rfl
 | n + 1 => by
  rw [show 13 + (n + 1) = (13 + n) + 1 by omega, xi2, cyc, <- xx5 mask i pt h n]
  show (_ * 5 + 1 + (xi2 mask i pt (13 + n)).2 / 32) % (mask + 1) = _
  rw [yu8 mask i pt h (by omega)]
def xk5 (m : Nat) : Prop := m = 7 \/ m = 15 \/ m = 31 \/ m = 63 \/ m = 127
def yt6 (N : Nat) : Nat -> Nat -> List Nat
 | 0, _ => []
 | n + 1, i => i :: yt6 N n ((i * 5 + 1) % N)
def xw3 (N : Nat) : Bool := ((List.range N).all fun j => (yt6 N N 0).contains j) && (cyc N 0 N == 0)
theorem orb_all : xw3 8 = true /\ xw3 16 = true /\ xw3 32 = true /\ xw3 64 = true /\ xw3 128 = true := by decide +kernel
theorem yi5 (N : Nat) : ∀ (n i k v : Nat), (yt6 N n i)[k]? = some v -> k < n /\ v = cyc N i k
 | 0, i, k, v, h => by simp [yt6] at h
 | n + 1, i, 0, v, h => by simp [yt6] at h; exact ⟨by omega, h.symm⟩
 | n + 1, i, k + 1, v, h => by
  simp [yt6] at h
  obtain ⟨h1, h2⟩ := yi5 N n _ k v h
  refine ⟨by omega, ?_⟩
  rw [h2, show (i * 5 + 1) % N = cyc N i 1 from rfl, xy3]
  congr 1
  omega
theorem xk5.orb {m : Nat} (h : xk5 m) : xw3 (m + 1) = true := by
 obtain ⟨a, b, c, d, e⟩ := orb_all
 rcases h with rfl | rfl | rfl | rfl | rfl <;> assumption
theorem yk3 {m : Nat} (h : xk5 m) {i j : Nat} (hi : i <= m) (hj : j <= m) : ∃ n, n <= m /\ cyc (m + 1) i n = j := by
 have o := h.orb
 unfold xw3 at o
 rw [Bool.and_eq_true] at o
 have fnd : ∀ x, x <= m -> ∃ a, a < m + 1 /\ x = cyc (m + 1) 0 a := fun x hx => by
  have := List.all_eq_true.mp o.1 x (List.mem_range.mpr (by omega))
  rw [List.contains_iff_mem] at this
  obtain ⟨a, ha⟩ := List.getElem?_of_mem this
  exact ⟨a, yi5 _ _ _ _ _ ha⟩
 obtain ⟨a, ha, ea⟩ := fnd i hi
 obtain ⟨b, hb, eb⟩ := fnd j hj
 by_cases c : a <= b
 ·exact ⟨b - a, by omega, by rw [ea, xy3, eb]; congr 1; omega⟩
 ·refine ⟨m + 1 - a + b, by omega, ?_⟩
  rw [ea, xy3, show a + (m + 1 - a + b) = (m + 1) + b by omega, <- xy3, eq_of_beq o.2, eb]
theorem cover {m : Nat} (hm : xk5 m) {p : SetTable.Probe} (h9 : p.more <= 9) (hp : p.perturb < 2 ^ 64) {j : Nat} (hj : j <= m) : ∃ n, n < 10 * SetTable.turns m /\ (advs m p n).j = j := by
 have hi : (xi2 m p.i p.perturb 13).1 <= m := by
  have : ∀ n, (xi2 m p.i p.perturb (n + 1)).1 <= m := fun n => Nat.le_of_lt_succ (Nat.mod_lt _ (by omega))
  exact this 12
 obtain ⟨n, hn, e⟩ := yk3 hm hi hj
 obtain ⟨k, hk, ek⟩ := yd2 m p h9 (12 + n)
 refine ⟨k, ?_, ?_⟩
 ·unfold SetTable.turns
  omega
 ·rw [ek]
  show (xi2 m p.i p.perturb (12 + n + 1)).1 = j
  rw [show 12 + n + 1 = 13 + n by omega, xx5 m _ _ hp, e]
theorem xw7 : ∀ {l m : List Nat}, l.Nodup -> (∀ x ∈ l, x ∈ m) -> l.length <= m.length
 | [], m, _, _ => Nat.zero_le _
 | x :: l, m, hn, hs => by
  rw [List.nodup_cons] at hn
  have hx := hs x (by simp)
  have := xw7 (l := l) (m := m.erase x) hn.2 fun y hy => (List.mem_erase_of_ne (fun e => hn.1 (by rw [<- e]; exact hy))).mpr (hs y (by simp [hy]))
  rw [List.length_erase_of_mem hx] at this
  have := List.length_pos_of_mem hx
  simp only [List.length_cons]
  omega
def start (mask : Nat) (h : Int) : SetTable.Probe := at0 mask (SetTable.bits h % (mask + 1)) (SetTable.bits h) none
def pos (mask : Nat) (h : Int) (n : Nat) : SetTable.Probe := advs mask (start mask h) n
structure Good (p : SetTable.Probe) : Prop where
 more : p.more <= 9
 pt : p.perturb < 2 ^ 64
 dum : p.dummy = none
theorem Good.adv {mask : Nat} {p : SetTable.Probe} (g : Good p) : Good (adv mask p) := by
 unfold LS.adv SetTable.advance; dsimp only
 split
 ·exact ⟨by have := g.more; show p.more - 1 <= 9; omega, g.pt, g.dum⟩
 ·exact ⟨run9 _ _, Nat.lt_of_le_of_lt (Nat.div_le_self _ _) g.pt, g.dum⟩
theorem good (mask : Nat) (h : Int) : ∀ n, Good (pos mask h n)
 | 0 => ⟨run9 _ _, by
   show SetTable.bits h < _
   unfold SetTable.bits
   have := Int.emod_lt_of_pos h (show (0 : Int) < 2 ^ 64 by decide)
   have := Int.emod_nonneg h (show (2 ^ 64 : Int) ≠ 0 by decide)
   omega, rfl⟩
 | n + 1 => (good mask h n).adv
def Way (mask : Nat) (l : List Nat) (h : Int) (j : Nat) : Prop := ∃ n, (pos mask h n).j = j /\ ∀ k, k < n -> (pos mask h k).j ∈ l
theorem Way.more {mask : Nat} {l l' : List Nat} {h : Int} {j : Nat} (x : Way mask l h j) (s : ∀ y ∈ l, y ∈ l') : Way mask l' h j := let ⟨n, a, b⟩ := x; ⟨n, a, fun k hk => s _ (b k hk)⟩
structure Tab (t : SetTable) (hs : List Int) : Prop where
 mask : xk5 t.mask
 dum : t.dummies = #[]
 pw : t.place.toList.Pairwise (· < ·)
 le : ∀ j ∈ t.place.toList, j <= t.mask
 len : t.place.toList.length = hs.length
 room : hs.length <= t.mask
 way : ∀ (i j : Nat) (h : Int), hs[i]? = some h -> t.place.toList[i]? = some j -> Way t.mask t.place.toList h j
theorem Tab.nd {t : SetTable} {hs : List Int} (T : Tab t hs) : t.place.toList.Nodup := T.pw.imp fun h => Nat.ne_of_lt h
theorem Tab.free {t : SetTable} {hs : List Int} (T : Tab t hs) : ∃ j, j <= t.mask /\ j ∉ t.place.toList := by
 apply Classical.byContradiction
 intro no
 have all : ∀ x ∈ List.range (t.mask + 1), x ∈ t.place.toList := fun x hx => by
  have := List.mem_range.mp hx
  exact Classical.byContradiction fun n => no ⟨x, by omega, n⟩
 have := xw7 List.nodup_range all
 rw [List.length_range, T.len] at this
 have := T.room
 omega
theorem Tab.first {t : SetTable} {hs : List Int} (T : Tab t hs) (h : Int) : ∃ e, e < 1420 /\ (pos t.mask h e).j ∉ t.place.toList /\ ∀ k, k < e -> (pos t.mask h k).j ∈ t.place.toList := by
 obtain ⟨j, hj, hf⟩ := T.free
 obtain ⟨n, hn, e⟩ := cover T.mask (good t.mask h 0).more (good t.mask h 0).pt hj
 have hb : 10 * SetTable.turns t.mask <= 1420 := by
  unfold SetTable.turns
  rcases T.mask with z | z | z | z | z <;> omega
 have ex : ∃ n, (pos t.mask h n).j ∉ t.place.toList := ⟨n, by rw [show (pos t.mask h n).j = j from e]; exact hf⟩
 have key : ∀ n, (pos t.mask h n).j ∉ t.place.toList -> ∃ e, e <= n /\ (pos t.mask h e).j ∉ t.place.toList /\ ∀ k, k < e -> (pos t.mask h k).j ∈ t.place.toList := by
  intro n
  induction n using Nat.strongRecOn with
  | _ n ih =>
   intro hn
   by_cases c : ∃ k, k < n /\ (pos t.mask h k).j ∉ t.place.toList
   ·obtain ⟨k, hk, hk'⟩ := c
    obtain ⟨e, he, r⟩ := ih k hk hk'
    exact ⟨e, by omega, r⟩
   ·exact ⟨n, Nat.le_refl _, hn, fun k hk => Classical.byContradiction fun z => c ⟨k, hk, z⟩⟩
 obtain ⟨e', he', r⟩ := key n (by rw [show (pos t.mask h n).j = j from e]; exact hf)
 exact ⟨e', by omega, r⟩
theorem Tab.go {t : SetTable} {hs : List Int} (T : Tab t hs) {hashAt : Nat -> Int} {h : Int} : ∀ (fuel n m : Nat), m < fuel -> (pos t.mask h (n + m)).j ∉ t.place.toList ->
  ∃ n1, n <= n1 /\ (∀ k, n <= k -> k < n1 -> ∃ i : Nat, t.place.toList[i]? = some (pos t.mask h k).j /\ hashAt i ≠ h) /\
   (((pos t.mask h n1).j ∉ t.place.toList /\ SetTable.probe.go t hashAt h fuel (pos t.mask h n) = some (.empty (pos t.mask h n1).j none)) \/
    ∃ i : Nat, t.place.toList[i]? = some (pos t.mask h n1).j /\ hashAt i = h /\ SetTable.probe.go t hashAt h fuel (pos t.mask h n) = some (.candidate (pos t.mask h n1).j i (pos t.mask h (n1 + 1)))) := by
 intro fuel
 induction fuel with
 | zero => intro n m hm; omega
 | succ fuel ih =>
  intro n m hm hf
  unfold SetTable.probe.go
  by_cases c : (pos t.mask h n).j ∈ t.place.toList
  ·obtain ⟨i, hi⟩ := List.getElem?_of_mem c
   rw [xv1 T.pw hi]
   dsimp only
   by_cases d : (hashAt i == h) = true
   ·rw [if_pos d]
    exact ⟨n, Nat.le_refl _, fun k h1 h2 => by omega, .inr ⟨i, hi, eq_of_beq d, rfl⟩⟩
   ·rw [if_neg d]
    cases m with
    | zero => exact absurd c hf
    | succ m =>
     obtain ⟨n1, h1, h2, h3⟩ := ih (n + 1) m (by omega) (by rw [show n + 1 + m = n + (m + 1) by omega]; exact hf)
     refine ⟨n1, by omega, fun k a b => ?_, h3⟩
     by_cases e : k = n
     ·subst e; exact ⟨i, hi, fun z => d (by rw [z]; simp)⟩
     ·exact h2 k (by omega) b
  ·rw [yx9 T.dum c]
   refine ⟨n, Nat.le_refl _, fun k h1 h2 => by omega, .inl ⟨c, ?_⟩⟩
   dsimp only
   rw [(good t.mask h n).dum]
theorem Tab.probe {t : SetTable} {hs : List Int} (T : Tab t hs) (hashAt : Nat -> Int) (h : Int) (n : Nat) :
  ∃ n1, n <= n1 /\ (∀ k, n <= k -> k < n1 -> ∃ i : Nat, t.place.toList[i]? = some (pos t.mask h k).j /\ hashAt i ≠ h) /\
   (((pos t.mask h n1).j ∉ t.place.toList /\ t.probe hashAt h (pos t.mask h n) = some (.empty (pos t.mask h n1).j none)) \/
    ∃ i : Nat, t.place.toList[i]? = some (pos t.mask h n1).j /\ hashAt i = h /\ t.probe hashAt h (pos t.mask h n) = some (.candidate (pos t.mask h n1).j i (pos t.mask h (n1 + 1)))) := by
 obtain ⟨j, hj, hf⟩ := T.free
 obtain ⟨m, hm, e⟩ := cover T.mask (good t.mask h n).more (good t.mask h n).pt hj
 refine T.go _ n m hm ?_
 rw [show (pos t.mask h (n + m)).j = j by rw [<- e]; unfold pos; rw [xs2]]
 exact hf
theorem Tab.put {t : SetTable} {hs : List Int} (T : Tab t hs) {h : Int} {j : Nat} (hj : j ∉ t.place.toList) (hl : j <= t.mask) (w : Way t.mask t.place.toList h j) (hr : hs.length + 1 <= t.mask) :
  ∃ p, p <= hs.length /\ (t.put j).2 = p /\ Tab (t.put j).1 (hs.take p ++ h :: hs.drop p) := by
 have lo := xu7 T.pw j
 have hp : SetTable.below t.place j <= t.place.toList.length := lo.1
 have ep : (t.put j).1.place.toList = t.place.toList.take (SetTable.below t.place j) ++ j :: t.place.toList.drop (SetTable.below t.place j) := xr6 _ _ _ (by simpa using hp)
 have sub : ∀ y ∈ t.place.toList, y ∈ (t.put j).1.place.toList := fun y hy => by
  rw [ep]
  rw [<- List.take_append_drop (SetTable.below t.place j) t.place.toList] at hy
  rcases List.mem_append.mp hy with z | z
  ·exact List.mem_append.mpr (.inl z)
  ·exact List.mem_append_right _ (by simp [z])
 refine ⟨SetTable.below t.place j, by rw [<- T.len]; exact hp, rfl, ?_⟩
 generalize hpp : SetTable.below t.place j = p at *
 have hlen : p <= hs.length := by rw [<- T.len]; exact hp
 have hsz : t.place.size = t.place.toList.length := by simp
 refine ⟨T.mask, ?_, by rw [ep]; exact yi4 T.pw lo hj, ?_, ?_, ?_, ?_⟩
 ·show (if SetTable.has t.dummies j = true then _ else t.dummies) = #[]
  rw [T.dum]
  simp [SetTable.has]
 ·intro y hy
  rw [ep] at hy
  rcases List.mem_append.mp hy with z | z
  ·exact T.le y (List.mem_of_mem_take z)
  ·rcases List.mem_cons.mp z with rfl | z
   ·exact hl
   ·exact T.le y (List.mem_of_mem_drop z)
 ·rw [ep]
  have := T.len
  simp at this ⊢
  omega
 ·show _ <= t.mask
  simp
  omega
 ·intro i j' h' e1 e2
  show Way t.mask _ h' j'
  rw [ep] at e2
  by_cases c : i < p
  ·rw [List.getElem?_append_left (by simp; omega), List.getElem?_take_of_lt c] at e1
   rw [List.getElem?_append_left (by simp; omega), List.getElem?_take_of_lt c] at e2
   exact (T.way i j' h' e1 e2).more sub
  ·rw [List.getElem?_append_right (by simp; omega)] at e1 e2
   have l1 : (hs.take p).length = p := by simp; omega
   have l2 : (t.place.toList.take p).length = p := by simp; omega
   rw [l1] at e1
   rw [l2] at e2
   by_cases d : i = p
   ·subst d
    rw [Nat.sub_self] at e1 e2
    simp at e1 e2
    subst e1 e2
    exact w.more sub
   ·obtain ⟨q, hq⟩ : ∃ q, i - p = q + 1 := ⟨i - p - 1, by omega⟩
    rw [hq, List.getElem?_cons_succ, List.getElem?_drop] at e1 e2
    exact (T.way _ j' h' e1 e2).more sub
theorem Tab.fresh (f m : Nat) (led : Bool) : Tab (SetTable.fresh f m led) [] :=
 ⟨.inl rfl, rfl, List.Pairwise.nil, fun j hj => by simp [SetTable.fresh] at hj, rfl, Nat.zero_le _, fun i j h e => by simp at e⟩
def occ (mask : Nat) (owner : Array (Option Nat)) : List Nat := (List.range (mask + 1)).filter fun j => (owner.getD j none).isSome
theorem xp8 {mask : Nat} {owner : Array (Option Nat)} {j : Nat} : j ∈ occ mask owner ↔ j <= mask /\ ∃ k, owner[j]? = some (some k) := by
 unfold occ
 rw [List.mem_filter, List.mem_range, Array.getD_eq_getD_getElem?]
 constructor
 ·rintro ⟨h1, h2⟩
  refine ⟨by omega, ?_⟩
  cases e : owner[j]? with
  | none => rw [e] at h2; simp at h2
  | some o =>
   cases o with
   | none => rw [e] at h2; simp at h2
   | some k => exact ⟨k, rfl⟩
 ·rintro ⟨h1, k, e⟩
  rw [e]
  exact ⟨by omega, rfl⟩
theorem yh8 {mask i : Nat} (h : i <= mask) : SetTable.runEnd mask i <= mask := by
 unfold SetTable.runEnd
 split <;> omega
theorem yh9 (mask i : Nat) : i <= SetTable.runEnd mask i := by
 unfold SetTable.runEnd
 split <;> omega
theorem pos_le {mask : Nat} (hm : xk5 mask) (h : Int) (n : Nat) : (pos mask h n).j <= mask := by
 have key : ∀ n, (pos mask h n).j + (pos mask h n).more <= mask := by
  intro n
  have st : ∀ i, i <= mask -> i + (SetTable.runEnd mask i - i) <= mask := fun i hi => by
   have := yh8 hi
   have := yh9 mask i
   omega
  induction n with
  | zero => exact st _ (Nat.le_of_lt_succ (Nat.mod_lt _ (by omega)))
  | succ n ih =>
   show (adv mask (pos mask h n)).j + (adv mask (pos mask h n)).more <= mask
   generalize pos mask h n = p at ih ⊢
   unfold adv SetTable.advance; dsimp only
   split
   ·show p.j + 1 + (p.more - 1) <= mask
    omega
   ·exact st _ (Nat.le_of_lt_succ (Nat.mod_lt _ (by omega)))
 have := key n
 omega
theorem free_go {mask : Nat} {owner : Array (Option Nat)} (hz : owner.size = mask + 1) (h : Int) : ∀ (fuel L n0 i pt : Nat), L < fuel -> i <= mask -> pos mask h n0 = at0 mask i pt none -> (∀ k, k < n0 -> (pos mask h k).j ∈ occ mask owner) ->
  (xi2 mask i pt L).1 ∉ occ mask owner -> ∃ j, SetTable.layClean.free mask owner fuel i pt = some j /\ j <= mask /\ j ∉ occ mask owner /\ Way mask (occ mask owner) h j := by
 intro fuel
 induction fuel with
 | zero => intro L n0 i pt hL; omega
 | succ fuel ih =>
  intro L n0 i pt hL hi hp hw hf
  unfold SetTable.layClean.free
  have hre := yh8 hi
  have hrg := yh9 mask i
  have run : ∀ k, k <= SetTable.runEnd mask i - i -> (pos mask h (n0 + k)).j = i + k := fun k hk => by
   have : pos mask h (n0 + k) = advs mask (pos mask h n0) k := by unfold pos; rw [xs2]
   rw [this, hp, yf9 _ _ _ (by exact hk)]
   rfl
  have isocc : ∀ k, k <= SetTable.runEnd mask i - i -> (owner.getD (i + k) (some 0)).isNone = false -> i + k ∈ occ mask owner := fun k hk e => by
   refine xp8.mpr ⟨by omega, ?_⟩
   rw [Array.getD_eq_getD_getElem?] at e; have hb : i + k < owner.size := by omega
   rw [Array.getElem?_eq_getElem hb] at e ⊢
   cases e2 : owner[i + k] with
   | none => rw [e2] at e; simp at e
   | some v => exact ⟨v, rfl⟩
  cases e : (List.range (SetTable.runEnd mask i + 1 - i)).find? fun k => (owner.getD (i + k) (some 0)).isNone with
  | some k =>
   dsimp only
   obtain ⟨h1, h2, h3⟩ := List.find?_range_eq_some.mp e
   rw [List.mem_range] at h2
   refine ⟨i + k, rfl, by omega, ?_, n0 + k, run k (by omega), fun k' hk' => ?_⟩
   ·intro m
    obtain ⟨_, v, ev⟩ := xp8.mp m
    rw [Array.getD_eq_getD_getElem?, ev] at h1
    simp at h1
   ·by_cases c : k' < n0
    ·exact hw k' c
    ·obtain ⟨q, rfl⟩ : ∃ q, k' = n0 + q := ⟨k' - n0, by omega⟩
     rw [run q (by omega)]
     refine isocc q (by omega) ?_
     have := h3 q (by omega)
     simpa using this
  | none =>
   dsimp only
   have all : ∀ k, k <= SetTable.runEnd mask i - i -> i + k ∈ occ mask owner := fun k hk => by
    refine isocc k hk ?_
    have := List.find?_eq_none.mp e k (List.mem_range.mpr (by omega))
    exact Bool.eq_false_iff.mpr this
   cases L with
   | zero => exact absurd (all 0 (by omega)) (by simpa [xi2] using hf)
   | succ L =>
    have step : pos mask h (n0 + (SetTable.runEnd mask i - i + 1)) = at0 mask (SetTable.leap mask i pt).1 (SetTable.leap mask i pt).2 none := by
     have : pos mask h (n0 + (SetTable.runEnd mask i - i + 1)) = advs mask (pos mask h n0) (SetTable.runEnd mask i - i + 1) := by unfold pos; rw [xs2]
     rw [this, hp]
     exact xz2 mask (at0 mask i pt none)
    refine ih L _ (SetTable.leap mask i pt).1 (SetTable.leap mask i pt).2 (by omega) (Nat.le_of_lt_succ (Nat.mod_lt _ (by omega))) step (fun k hk => ?_) ?_
    ·by_cases c : k < n0
     ·exact hw k c
     ·obtain ⟨q, rfl⟩ : ∃ q, k = n0 + q := ⟨k - n0, by omega⟩
      rw [run q (by omega)]
      exact all q (by omega)
    ·have sh : ∀ n, xi2 mask (SetTable.leap mask i pt).1 (SetTable.leap mask i pt).2 n = xi2 mask i pt (n + 1) := by
      intro n
      induction n with
      | zero => rfl
      | succ n ihn => rw [xi2, ihn]; rfl
     rw [sh]
     exact hf
theorem free_at {mask : Nat} (hm : xk5 mask) {owner : Array (Option Nat)} (hz : owner.size = mask + 1) (h : Int) {f : Nat} (hf : f <= mask) (hfo : f ∉ occ mask owner) :
  ∃ j, SetTable.layClean.free mask owner (SetTable.turns mask) (SetTable.bits h % (mask + 1)) (SetTable.bits h) = some j /\ j <= mask /\ j ∉ occ mask owner /\ Way mask (occ mask owner) h j := by
 have g := good mask h 0
 have hi : (xi2 mask (SetTable.bits h % (mask + 1)) (SetTable.bits h) 13).1 <= mask := Nat.le_of_lt_succ (Nat.mod_lt _ (by omega))
 obtain ⟨n, hn, e⟩ := yk3 hm hi hf
 refine free_go hz h _ (13 + n) 0 _ _ (by unfold SetTable.turns; omega) (Nat.le_of_lt_succ (Nat.mod_lt _ (by omega))) rfl (fun k hk => by omega) ?_
 rw [xx5 mask _ _ (show SetTable.bits h < 2 ^ 64 from g.pt), e]
 exact hfo
structure Own (mask : Nat) (hs : List Int) (owner : Array (Option Nat)) : Prop where
 sz : owner.size = mask + 1
 lt : ∀ (j k : Nat), owner[j]? = some (some k) -> k < hs.length
 inj : ∀ (j j' k : Nat), owner[j]? = some (some k) -> owner[j']? = some (some k) -> j = j'
 at_ : ∀ (k : Nat) (h : Int), hs[k]? = some h -> ∃ j, owner[j]? = some (some k) /\ Way mask (occ mask owner) h j
theorem Own.free {mask : Nat} {hs : List Int} {owner : Array (Option Nat)} (O : Own mask hs owner) (hl : hs.length <= mask) : ∃ f, f <= mask /\ f ∉ occ mask owner := by
 apply Classical.byContradiction
 intro no
 have all : ∀ j, j <= mask -> ∃ k, owner[j]? = some (some k) := fun j hj => by
  have : j ∈ occ mask owner := Classical.byContradiction fun n => no ⟨j, hj, n⟩
  exact (xp8.mp this).2
 have nd : ((List.range (mask + 1)).map fun j => (owner.getD j none).getD 0).Nodup := by
  rw [List.nodup_iff_pairwise_ne, List.pairwise_map]
  refine List.Pairwise.imp_of_mem (R := (· < ·)) (fun {a b} ha hb hab => ?_) List.pairwise_lt_range
  rw [List.mem_range] at ha hb
  obtain ⟨k, hk⟩ := all a (by omega)
  obtain ⟨k', hk'⟩ := all b (by omega)
  rw [Array.getD_eq_getD_getElem?, Array.getD_eq_getD_getElem?, hk, hk']
  intro e
  have e : k = k' := e
  subst e
  have := O.inj _ _ _ hk hk'
  omega
 have := xw7 (m := List.range hs.length) nd fun x hx => by
  obtain ⟨j, hj, e⟩ := List.mem_map.mp hx
  rw [List.mem_range] at hj
  obtain ⟨k, hk⟩ := all j (by omega)
  rw [Array.getD_eq_getD_getElem?, hk] at e
  have e : k = x := e
  subst e
  exact List.mem_range.mpr (O.lt j k hk)
 simp at this
 omega
theorem Own.step {mask : Nat} (hm : xk5 mask) {hs : List Int} {owner : Array (Option Nat)} (O : Own mask hs owner) (hl : hs.length <= mask) (h : Int) :
  ∃ j, SetTable.layClean.free mask owner (SetTable.turns mask) (SetTable.bits h % (mask + 1)) (SetTable.bits h) = some j /\ Own mask (hs ++ [h]) (owner.setIfInBounds j (some hs.length)) := by
 obtain ⟨f, hf, hfo⟩ := O.free hl
 obtain ⟨j, e, hj, hjo, w⟩ := free_at hm O.sz h hf hfo
 have hb : j < owner.size := by rw [O.sz]; omega
 have get : ∀ i, (owner.setIfInBounds j (some hs.length))[i]? = if i = j then some (some hs.length) else owner[i]? := fun i => by
  rw [Array.getElem?_setIfInBounds]; by_cases c : j = i
  ·subst c; rw [if_pos rfl, if_pos rfl, if_pos hb]
  ·rw [if_neg c, if_neg (fun z => c z.symm)]
 have more : ∀ y ∈ occ mask owner, y ∈ occ mask (owner.setIfInBounds j (some hs.length)) := fun y hy => by
  obtain ⟨h1, k, hk⟩ := xp8.mp hy
  refine xp8.mpr ⟨h1, ?_⟩
  rw [get]
  split
  ·exact ⟨_, rfl⟩
  ·exact ⟨k, hk⟩
 refine ⟨j, e, ⟨by simp [O.sz], fun i k q => ?_, fun i i' k q q' => ?_, fun k h' q => ?_⟩⟩
 ·rw [get] at q
  rw [List.length_append]
  split at q
  ·cases q; simp
  ·have := O.lt i k q; omega
 ·rw [get] at q q'
  split at q <;> split at q'
  ·omega
  ·cases q; have := O.lt _ _ q'; omega
  ·cases q'; have := O.lt _ _ q; omega
  ·exact O.inj _ _ _ q q'
 ·by_cases c : k < hs.length
  ·rw [List.getElem?_append_left c] at q
   obtain ⟨i, hi, wi⟩ := O.at_ k h' q
   refine ⟨i, ?_, wi.more more⟩
   rw [get, if_neg ?_]
   ·exact hi
   ·rintro rfl
    exact hjo (xp8.mpr ⟨hj, _, hi⟩)
  ·rw [List.getElem?_append_right (by omega)] at q
   have : k - hs.length = 0 := by
    have := (List.getElem?_eq_some_iff.mp q).1
    simp at this
    omega
   rw [this] at q
   have q : h = h' := by simpa using q
   subst q
   have : k = hs.length := by omega
   subst this
   exact ⟨j, by rw [get, if_pos rfl], w.more more⟩
theorem yz7 : ∀ {l m : List Nat}, l.Nodup -> m.Nodup -> (∀ x, x ∈ l ↔ x ∈ m) -> l.Perm m
 | [], m, _, _, h => by
  cases m with
  | nil => exact .nil
  | cons x r => exact absurd ((h x).mpr (by simp)) (by simp)
 | x :: l, m, hl, hm, h => by
  have hx : x ∈ m := (h x).mp (by simp)
  rw [List.nodup_cons] at hl
  refine List.Perm.trans (.cons x (yz7 hl.2 (hm.erase x) fun y => ?_)) (List.perm_cons_erase hx).symm
  constructor
  ·intro hy
   exact (List.mem_erase_of_ne (fun e => hl.1 (by rw [<- e]; exact hy))).mpr ((h y).mp (by simp [hy]))
  ·intro hy
   have hne : y ≠ x := fun e => by subst e; exact (hm.not_mem_erase) hy
   have := (h y).mpr (List.mem_of_mem_erase hy)
   simpa [hne] using this
theorem xv8 {α : Type} : ∀ l : List α, (List.range l.length).filterMap (fun k => l[k]?) = l
 | [] => rfl
 | a :: l => by
  rw [List.length_cons, List.range_succ_eq_map, List.filterMap_cons]
  simp only [List.getElem?_cons_zero, List.filterMap_map]
  have : ((fun k => (a :: l)[k]?) ∘ Nat.succ) = fun k => l[k]? := by funext k; simp
  rw [this, xv8 l]
def layF (mask : Nat) (acc : Option (Array (Option Nat) × Nat)) (h : Int) : Option (Array (Option Nat) × Nat) := do
 let (owner, k) <- acc
 let j <- SetTable.layClean.free mask owner (SetTable.turns mask) (SetTable.bits h % (mask + 1)) (SetTable.bits h)
 pure (owner.setIfInBounds j (some k), k + 1)
theorem yq3 {mask : Nat} (hm : xk5 mask) : ∀ (todo done : List Int) (owner : Array (Option Nat)), Own mask done owner -> (done ++ todo).length <= mask + 1 ->
  ∃ o, todo.foldl (layF mask) (some (owner, done.length)) = some (o, (done ++ todo).length) /\ Own mask (done ++ todo) o
 | [], done, owner, O, _ => ⟨owner, by simp, by simpa using O⟩
 | h :: todo, done, owner, O, hl => by
  simp only [List.length_append, List.length_cons] at hl
  obtain ⟨j, e, O'⟩ := O.step hm (by omega) h
  obtain ⟨o, e2, O2⟩ := yq3 hm todo (done ++ [h]) _ O' (by simp; omega)
  refine ⟨o, ?_, by simpa using O2⟩
  rw [List.foldl_cons]
  have : layF mask (some (owner, done.length)) h = some (owner.setIfInBounds j (some done.length), (done ++ [h]).length) := by
   unfold layF
   simp [e]
  rw [this, e2]
  simp
theorem own_nil (mask : Nat) : Own mask [] (Array.replicate (mask + 1) none) := by
 have no : ∀ j k, (Array.replicate (mask + 1) (none : Option Nat))[j]? ≠ some (some k) := fun j k e => by
  rw [Array.getElem?_replicate] at e
  split at e <;> cases e
 exact ⟨by simp, fun j k e => absurd e (no j k), fun j j' k e => absurd e (no j k), fun k h e => by simp at e⟩
theorem yn8 {mask : Nat} (hm : xk5 mask) (hs : Array Int) (hl : hs.size <= mask) : ∃ o, SetTable.layClean mask hs = some o /\ Own mask hs.toList o := by
 obtain ⟨o, e, O⟩ := yq3 hm hs.toList [] _ (own_nil mask) (by simp; omega)
 refine ⟨o, ?_, by simpa using O⟩
 unfold SetTable.layClean
 rw [<- Array.foldl_toList]
 rw [show (hs.toList.foldl _ (some (Array.replicate (mask + 1) none, 0))) = some (o, ([] ++ hs.toList).length) from e]
 rfl
theorem zb6 {α : Type} {mask : Nat} (hm : xk5 mask) (es : Array (Int × α)) (hl : es.size <= mask) (f mv : Nat) (led plain : Bool) :
  ∃ t order, SetTable.laid mask f mv led plain (es.map (·.1)) = some (t, order) /\ t.mask = mask /\ t.led = led /\ t.plain = plain /\ t.finger = f /\ t.moves = mv /\
   (order.filterMap (fun k => es[k]?)).toList.Perm es.toList /\ Tab t ((order.filterMap (fun k => es[k]?)).toList.map (·.1)) := by
 obtain ⟨o, e, O⟩ := yn8 hm (es.map (·.1)) (by simpa using hl)
 have hlen : (es.map (·.1)).toList.length = es.size := by simp
 generalize hv : ((List.range (mask + 1)).filterMap fun j => (o.getD j none).map (j, ·)) = live
 have mem : ∀ j k, (j, k) ∈ live ↔ j <= mask /\ o[j]? = some (some k) := fun j k => by
  rw [<- hv, List.mem_filterMap]
  constructor
  ·rintro ⟨i, hi, e⟩
   rw [List.mem_range] at hi; rw [Array.getD_eq_getD_getElem?] at e
   cases q : o[i]? with
   | none => rw [q] at e; simp at e
   | some w =>
    rw [q] at e
    cases w with
    | none => simp at e
    | some k' => simp at e; obtain ⟨rfl, rfl⟩ := e; exact ⟨by omega, q⟩
  ·rintro ⟨h1, h2⟩
   refine ⟨j, List.mem_range.mpr (by omega), ?_⟩
   rw [Array.getD_eq_getD_getElem?, h2]
   rfl
 have pw : live.Pairwise fun a b => a.1 < b.1 := by
  rw [<- hv, List.pairwise_filterMap]
  refine List.pairwise_lt_range.imp fun {a b} hab c hc d hd => ?_
  have e1 : c.1 = a := by
   cases q : o.getD a none with
   | none => rw [q] at hc; simp at hc
   | some k => rw [q] at hc; simp at hc; rw [<- hc]
  have e2 : d.1 = b := by
   cases q : o.getD b none with
   | none => rw [q] at hd; simp at hd
   | some k => rw [q] at hd; simp at hd; rw [<- hd]
  rw [e1, e2]
  exact hab
 have nd2 : (live.map (·.2)).Nodup := by
  rw [List.nodup_iff_pairwise_ne, List.pairwise_map]
  refine List.Pairwise.imp_of_mem (fun {a b} ha hb hab => ?_) pw
  intro z
  have h1 := ((mem a.1 a.2).mp ha).2
  have h2 := ((mem b.1 b.2).mp hb).2
  rw [<- z] at h2
  have := O.inj _ _ _ h1 h2
  omega
 have mem2 : ∀ k, k ∈ live.map (·.2) ↔ k ∈ List.range es.size := fun k => by
  rw [List.mem_map, List.mem_range]
  constructor
  ·rintro ⟨⟨j, k'⟩, hj, rfl⟩
   have := O.lt j k' ((mem j k').mp hj).2
   rw [hlen] at this
   exact this
  ·intro hk
   obtain ⟨j, hj, w⟩ := O.at_ k _ (List.getElem?_eq_getElem (by rw [hlen]; exact hk))
   refine ⟨(j, k), (mem j k).mpr ⟨?_, hj⟩, rfl⟩
   have := (Array.getElem?_eq_some_iff.mp hj).1
   rw [O.sz] at this
   omega
 have perm := yz7 nd2 List.nodup_range mem2
 have toL : ((live.map (·.2)).toArray.filterMap (fun k => es[k]?)).toList = (live.map (·.2)).filterMap (fun k => es.toList[k]?) := by simp
 refine ⟨_, _, by unfold SetTable.laid; rw [e]; simp only [Option.bind_eq_bind, Option.bind_some]; rw [hv]; rfl, rfl, rfl, rfl, rfl, rfl, ?_, ?_⟩
 ·rw [toL]
  have := perm.filterMap (fun k => es.toList[k]?)
  rw [show es.size = es.toList.length by simp, xv8] at this
  exact this
 ·rw [toL]
  have item : ∀ p ∈ live, ∃ x, es.toList[p.2]? = some x := fun p hp => by
   have := (mem2 p.2).mp (List.mem_map.mpr ⟨p, hp, rfl⟩)
   rw [List.mem_range] at this
   exact ⟨_, List.getElem?_eq_getElem (by simpa using this)⟩
  have row : ∀ l : List (Nat × Nat), (∀ p ∈ l, ∃ x, es.toList[p.2]? = some x) -> ((l.map (·.2)).filterMap (fun k => es.toList[k]?)).length = l.length /\
    ∀ (i : Nat) (x : Int × α), ((l.map (·.2)).filterMap (fun k => es.toList[k]?))[i]? = some x -> ∃ p, l[i]? = some p /\ es.toList[p.2]? = some x := by
   intro l
   induction l with
   | nil => intro _; exact ⟨rfl, fun i x h => by simp at h⟩
   | cons p l ih =>
    intro hl
    obtain ⟨y, hy⟩ := hl p (by simp)
    obtain ⟨h1, h2⟩ := ih fun q hq => hl q (by simp [hq])
    rw [List.map_cons, List.filterMap_cons, hy]
    refine ⟨by rw [List.length_cons, List.length_cons, h1], fun i x h => ?_⟩
    cases i with
    | zero => simp at h; subst h; exact ⟨p, rfl, hy⟩
    | succ i =>
     rw [List.getElem?_cons_succ] at h
     obtain ⟨q, hq, hx⟩ := h2 i x h
     exact ⟨q, by simpa using hq, hx⟩
  obtain ⟨r1, r2⟩ := row live item
  have ll : live.length = es.size := by
   have := perm.length_eq
   simpa using this
  refine ⟨hm, rfl, ?_, ?_, ?_, ?_, ?_⟩
  ·show (live.map (·.1)).toArray.toList.Pairwise _
   rw [List.toList_toArray, List.pairwise_map]
   exact pw
  ·intro j hj
   have hj : j ∈ live.map (·.1) := by simpa using hj
   obtain ⟨⟨j', k⟩, hp, rfl⟩ := List.mem_map.mp hj
   exact ((mem j' k).mp hp).1
  ·show (live.map (·.1)).toArray.toList.length = _
   rw [List.toList_toArray, List.length_map, List.length_map, r1]
  ·rw [List.length_map, r1, ll]
   exact hl
  ·intro i j h e1 e2
   rw [List.getElem?_map] at e1
   obtain ⟨x, hx, rfl⟩ := Option.map_eq_some_iff.mp e1
   obtain ⟨p, hp, hpx⟩ := r2 i x hx
   have e2 : (live.map (·.1))[i]? = some j := by simpa using e2
   rw [List.getElem?_map, hp] at e2
   have e2 : p.1 = j := by simpa using e2
   have hm2 := (mem p.1 p.2).mp (List.mem_of_getElem? hp)
   obtain ⟨j', hj', w⟩ := O.at_ p.2 x.1 (by
    have : (es.map (·.1)).toList[p.2]? = (es.toList[p.2]?).map (·.1) := by simp
    rw [this, hpx]; rfl)
   have := O.inj _ _ _ hj' hm2.2
   rw [this, e2] at w
   refine w.more fun y hy => ?_
   obtain ⟨hy1, k, hk⟩ := xp8.mp hy
   show y ∈ (live.map (·.1)).toArray.toList
   rw [List.toList_toArray]
   exact List.mem_map.mpr ⟨(y, k), (mem y k).mpr ⟨hy1, hk⟩, rfl⟩
section
variable {prog : Program} {w : World} {K : Type} [DecidableEq K] {kn : KeyKind prog w K} {A : Around} {E : Value -> Shared -> Prop} {s : Shared}
theorem unseen {ks : List K} {a : Addr} {Q : Bool -> Shared -> Prop} (hk : IsTupleKey kn s.heap ks a) (h : Q false s) : wpAny (model prog w) A (ofAClassStatement 8 (.ref a)) Q E s := by
 have hT := hk.typeIs
 obtain ⟨o, items, n, ho, hc, hd, hi⟩ := hk
 unfold ofAClassStatement
 refine wpAny_bind (wpAny_typeOf hT ?_); show wpAny _ _ (_ >>= _) _ _ _
 simp only [beq_self_eq_true, if_true]; refine wpAny_bind (wpAny_pure ?_)
 simp only [Bool.not_true, Bool.false_eq_true, if_false]; refine wpAny_bind (wpAny_seqItems ho hd ?_)
 refine wpAny_bind ?_
 show wpAny _ _ (forIn items _ _) _ _ s; rw [<- Array.forIn_toList]; refine wpAny_forIn_list _ (fun rest r s' => r.1 = none /\ s' = s /\ ∀ v ∈ rest, carriedByValue v = true) _ ?_ ?_ _ _ ⟨rfl, rfl, hi.byValue⟩
 ·rintro v rest r s' ⟨hr, rfl, hall⟩; have hv := hall v List.mem_cons_self
  have e : ofAClassStatement 7 v = pure false := by
   cases v with
   | ref b => simp [carriedByValue] at hv
   | _ => rfl
  rw [e]
  refine wpAny_bind (wpAny_pure ?_); simp only [Bool.false_eq_true, if_false]; exact wpAny_pure ⟨rfl, rfl, fun u hu' => hall u (List.mem_cons_of_mem _ hu')⟩
 ·rintro ⟨r1, r2⟩ s' ⟨hr, rfl, _⟩; simp only at hr
  subst hr
  exact wpAny_pure h
theorem yf7 {o : Obj} {a : Addr} {items : Array Value} {n : Nat} {Q : Bool -> Shared -> Prop} (ho : s.heap.get? a = some o) (hc : o.cls = .type "tuple") (hd : o.data = .seq items n) (hall : ∀ v ∈ items.toList, v.scannable = true)
  (h : Q (items.toList.all plainKind) s) : wpAny (model prog w) A (hashByValue 8 (.ref a)) Q E s := by
 have hT : s.TypeIs (.ref a) "tuple" := ⟨o, ho, hc⟩
 unfold hashByValue
 refine wpAny_bind (wpAny_specialOf hT F.slot_tuple_hash.lookup ?_); show wpAny _ _ (seqItems? (.ref a) >>= _) _ _ _
 refine wpAny_bind (wpAny_seqItems ho hd ?_); refine wpAny_bind ?_
 show wpAny _ _ (forIn items _ _) _ _ s; rw [<- Array.forIn_toList]
 refine wpAny_forIn_list _ (fun rest r s' => s' = s /\ ((r.1 = none /\ (∀ v ∈ rest, v.scannable = true) /\ rest.all plainKind = items.toList.all plainKind))) _ ?_ ?_ _ _ ⟨rfl, rfl, hall, rfl⟩
 ·rintro v rest r s' ⟨rfl, hr, hall, he⟩
  rw [hashByValue_scannable 7 (hall v List.mem_cons_self)]
  refine wpAny_bind (wpAny_pure ?_); rw [List.all_cons] at he
  cases hp : plainKind v with
  | true =>
   simp only [Bool.not_true, Bool.false_eq_true, if_false]; rw [hp, Bool.true_and] at he
   exact wpAny_pure ⟨rfl, rfl, fun u hu' => hall u (List.mem_cons_of_mem _ hu'), he⟩
  | false =>
   rw [hp, Bool.false_and] at he
   rw [<- he] at h
   simp only [Bool.not_false, if_true]; first | exact wpAny_pure (wpAny_pure h) | exact wpAny_bind (wpAny_pure (wpAny_pure h))
 ·rintro ⟨r1, r2⟩ s' ⟨rfl, hr, _, he⟩
  simp only at hr
  subst hr
  rw [<- he] at h
  exact wpAny_pure h
theorem notSeen {x : Value} {ks : List K} {b : Addr} {Q : Bool -> Shared -> Prop} (hk : IsTupleKey kn s.heap ks b) (l : List Value) (hl : ∀ v ∈ l, ∃ ks' a, v = .ref a /\ IsTupleKey kn s.heap ks' a) (h : Q false s) : wpAny (model prog w) A (searchCouldBeSeen (.ref b) l) Q E s := by
 unfold searchCouldBeSeen
 refine wpAny_bind ?_
 refine wpAny_forIn_list _ (fun rest r s' => r.1 = none /\ s' = s /\ ∀ v ∈ rest, ∃ ks' a, v = .ref a /\ IsTupleKey kn s.heap ks' a) _ ?_ ?_ _ _ ⟨rfl, rfl, hl⟩
 ·rintro v rest r s' ⟨hr, rfl, hall⟩; obtain ⟨ks', a, rfl, hk'⟩ := hall v List.mem_cons_self
  have hall' : ∀ v ∈ rest, ∃ ks' a, v = .ref a /\ IsTupleKey kn s'.heap ks' a := fun u hu' => hall u (List.mem_cons_of_mem _ hu')
  dsimp only
  split
  ·exact wpAny_pure ⟨rfl, rfl, hall'⟩
  ·refine wpAny_bind (wpAny_eqIsQuiet_tuple hk ?_)
   simp only [Bool.not_true, Bool.false_eq_true, if_false]; refine wpAny_bind (wpAny_eqIsQuiet_tuple hk' ?_)
   simp only [Bool.not_true, Bool.false_eq_true, if_false]; refine wpAny_bind (unseen hk ?_)
   simp only [Bool.false_eq_true, if_false]; refine wpAny_bind (unseen hk' ?_)
   simp only [Bool.false_eq_true, if_false]; exact wpAny_pure ⟨rfl, rfl, hall'⟩
 ·rintro ⟨r1, r2⟩ s' ⟨hr, rfl, _⟩; simp only at hr
  subst hr
  exact wpAny_pure h
structure SetAt (kn : KeyKind prog w K) (h : Heap) (xs : List (List K × Addr)) (es : Array (Int × Value)) (t : SetTable) : Prop where
 es : es.toList = xs.map fun x => (tupleKeyHash kn x.1, Value.ref x.2)
 is : ∀ x ∈ xs, IsTupleKey kn h x.1 x.2
 nd : (xs.map (·.1)).Nodup
 tab : Tab t (xs.map fun x => tupleKeyHash kn x.1)
 cap : xs.length * 5 < t.mask * 3
theorem SetAt.size {h : Heap} {xs : List (List K × Addr)} {es : Array (Int × Value)} {t : SetTable} (S : SetAt kn h xs es t) : es.size = xs.length := by
 rw [<- Array.length_toList, S.es, List.length_map]
theorem SetAt.fits {h : Heap} {xs : List (List K × Addr)} {es : Array (Int × Value)} {t : SetTable} (S : SetAt kn h xs es t) : t.fits es.size = true := by
 unfold SetTable.fits SetTable.fill
 have h1 := S.tab.len
 have h2 := S.tab.room
 have h3 := S.size
 rw [S.tab.dum]
 simp only [Array.length_toList, List.length_map] at h1 h2
 simp only [Bool.and_eq_true, beq_iff_eq, decide_eq_true_eq, List.size_toArray, List.length_nil]
 omega
theorem SetAt.odd {h : Heap} {xs : List (List K × Addr)} {es : Array (Int × Value)} {t : SetTable} (S : SetAt kn h xs es t) : t.gaveWay = false := by
 unfold SetTable.gaveWay
 rcases S.tab.mask with e | e | e | e | e <;> rw [e] <;> rfl
theorem SetAt.get {h : Heap} {xs : List (List K × Addr)} {es : Array (Int × Value)} {t : SetTable} (S : SetAt kn h xs es t) {i : Nat} {x : List K × Addr} (e : xs[i]? = some x) : es[i]? = some (tupleKeyHash kn x.1, Value.ref x.2) := by
 rw [<- Array.getElem?_toList, S.es, List.getElem?_map, e]
 rfl
theorem yy5 {a b : Addr} {o : Obj} {es : Array (Int × Value)} {ep : Nat} {t : SetTable} {xs : List (List K × Addr)} {k : List K} {adding : Bool} {Q : SetFound -> Shared -> Prop} (hu : A.units < cLine)
  (ho : s.heap.get? a = some o) (hd : o.data = .set es ep t) (S : SetAt kn s.heap xs es t) (hk : IsTupleKey kn s.heap k b) {e : Nat} (he1 : (pos t.mask (tupleKeyHash kn k) e).j ∉ t.place.toList) (he2 : ∀ m, m < e -> (pos t.mask (tupleKeyHash kn k) m).j ∈ t.place.toList)
  (there : k ∈ xs.map (·.1) -> ∀ i, Q (.there i) s) (free : k ∉ xs.map (·.1) -> ∀ j, j <= t.mask -> j ∉ t.place.toList -> Way t.mask t.place.toList (tupleKeyHash kn k) j -> Q (.free j false) s) :
  ∀ (fuel n : Nat) (stand : Option SetTable.Probe), n <= e -> e - n < fuel -> stand.getD (t.probeStart (tupleKeyHash kn k)) = pos t.mask (tupleKeyHash kn k) n ->
   (∀ (m i : Nat) (x : List K × Addr), m < n -> t.place.toList[i]? = some (pos t.mask (tupleKeyHash kn k) m).j -> xs[i]? = some x -> x.1 ≠ k) ->
   wpAny (model prog w) A (setSearchFrom a (.ref b) (tupleKeyHash kn k) adding fuel stand) Q E s := by
 intro fuel
 induction fuel with
 | zero => intro n stand _ h; omega
 | succ fuel ih =>
  intro n stand hne hf hst hn
  unfold setSearchFrom
  refine wpAny_bind (wpAny_setState_of ho hd S.fits ?_)
  dsimp only
  rw [S.odd, hst]
  simp only [Bool.false_eq_true, if_false]; generalize hh : tupleKeyHash kn k = h at *
  have hashAt : ∀ (i : Nat) (x : List K × Addr), xs[i]? = some x -> ((es[i]?.map (·.1)).getD 0) = tupleKeyHash kn x.1 := fun i x e => by rw [S.get e]; rfl
  obtain ⟨n1, hn1, mid, end_⟩ := S.tab.probe (fun i => (es[i]?.map (·.1)).getD 0) h n
  have inx : ∀ (i j : Nat), t.place.toList[i]? = some j -> ∃ x, xs[i]? = some x := fun i j e => by
   have h1 := (List.getElem?_eq_some_iff.mp e).1
   have h2 := S.tab.len
   rw [List.length_map] at h2
   exact ⟨_, List.getElem?_eq_getElem (by omega)⟩
  rcases end_ with ⟨hem, ep⟩ | ⟨i, hi, hhi, ep⟩
  ·erw [ep]
   dsimp only
   have live : ∀ m, m < n1 -> (pos t.mask h m).j ∈ t.place.toList := fun m hm => by
    by_cases c : m < n
    ·exact he2 m (by omega)
    ·obtain ⟨i, hi, _⟩ := mid m (by omega) hm
     exact List.mem_of_getElem? hi
   refine wpAny_pure (free (fun hin => ?_) _ ?_ hem ⟨n1, rfl, live⟩)
   ·obtain ⟨x, hx, rfl⟩ := List.mem_map.mp hin
    obtain ⟨i, hi⟩ := List.getElem?_of_mem hx
    have hlen := S.tab.len
    rw [List.length_map] at hlen
    obtain ⟨j, hj⟩ : ∃ j, t.place.toList[i]? = some j := ⟨_, List.getElem?_eq_getElem (by have := (List.getElem?_eq_some_iff.mp hi).1; omega)⟩
    obtain ⟨n', e', l'⟩ := S.tab.way i j h (by rw [List.getElem?_map, hi, <- hh]; rfl) hj
    have lt : n' < n1 := by
     rcases Nat.lt_trichotomy n' n1 with z | z | z
     ·exact z
     ·subst z; rw [e'] at hem; exact absurd (List.mem_of_getElem? hj) hem
     ·exact absurd (l' n1 z) hem
    by_cases c : n' < n
    ·exact hn n' i x c (by rw [e']; exact hj) hi rfl
    ·obtain ⟨i', hi', hne'⟩ := mid n' (by omega) lt
     rw [e'] at hi'
     have : i' = i := by
      have l1 := (List.getElem?_eq_some_iff.mp hi').1
      exact (List.getElem?_inj l1 S.tab.nd).mp (hi'.trans hj.symm)
     subst this
     exact hne' ((hashAt _ x hi).trans hh)
   ·-- the slot lies in the table
    have key : ∀ n, (pos t.mask h n).j <= t.mask := pos_le S.tab.mask h
    exact key n1
  ·erw [ep]
   dsimp only
   have lt : n1 < e := by
    rcases Nat.lt_trichotomy n1 e with z | z | z
    ·exact z
    ·subst z; exact absurd (List.mem_of_getElem? hi) he1
    ·obtain ⟨i', hi', _⟩ := mid e (by omega) z
     exact absurd (List.mem_of_getElem? hi') he1
   obtain ⟨x, hx⟩ := inx i _ hi
   have hxk := S.is x (List.mem_of_getElem? hx)
   have side : ∀ v ∈ (es.filter (·.1 == h)).toList.map (·.2), ∃ ks' c, v = .ref c /\ IsTupleKey kn s.heap ks' c := fun v hv => by
    obtain ⟨en, hen, rfl⟩ := List.mem_map.mp hv
    have hen : en ∈ es.toList := Array.mem_toList_iff.mpr (Array.mem_filter.mp (Array.mem_toList_iff.mp hen)).1
    rw [S.es] at hen
    obtain ⟨y, hy, rfl⟩ := List.mem_map.mp hen
    exact ⟨y.1, y.2, rfl, S.is y hy⟩
   rcases Bool.eq_false_or_eq_true (!t.led) with cl | cl
   all_goals first
    | rw [if_pos cl]; refine wpAny_bind (notSeen (x := .none) hk _ side ?_); rw [if_neg Bool.false_ne_true]
    | rw [if_neg (by rw [cl]; exact Bool.false_ne_true)]
   all_goals
    rw [S.get hx]
    dsimp only
    refine wpAny_bind (wpAny_holding (wpAny_eqBool_tuple hu hxk hk ?_))
    refine wpAny_bind (wpAny_setState_of ho hd S.fits ?_)
    dsimp only
    by_cases c : x.1 = k
    ·rw [decide_eq_true c]
     have hin : k ∈ xs.map (·.1) := by rw [<- c]; exact List.mem_map.mpr ⟨x, List.mem_of_getElem? hx, rfl⟩
     cases adding with
     | true => exact wpAny_pure (there hin none)
     | false =>
      simp only [Bool.false_and, Bool.false_eq_true, if_false]
      have sm : t.sameMemory t.moves t.mask = some true := by unfold SetTable.sameMemory; simp
      rw [sm]
      dsimp only
      simp only [if_true]
      rw [xv1 S.tab.pw hi]
      dsimp only
      rw [S.get hx]
      dsimp only
      refine wpAny_bind (wpAny_isSame_ref_self ?_)
      simp only [if_true]
      exact wpAny_bind (wpAny_pure (wpAny_pure (there hin _)))
    ·rw [decide_eq_false c, Bool.and_false]
     simp only [Bool.false_eq_true, if_false]; have sm : t.sameMemory t.moves t.mask = some true := by unfold SetTable.sameMemory; simp
     rw [sm]
     dsimp only
     simp only [if_true]
     rw [xv1 S.tab.pw hi]
     dsimp only
     rw [S.get hx]
     dsimp only
     refine wpAny_bind (wpAny_isSame_ref_self ?_)
     simp only [if_true]
     refine wpAny_bind (wpAny_pure ?_); dsimp only
     refine ih (n1 + 1) _ (by omega) (by omega) rfl fun m i' y hm hi' hy => ?_
     by_cases c1 : m < n
     ·exact hn m i' y c1 hi' hy
     ·by_cases c2 : m = n1
      ·subst c2
       have : i' = i := by
        have l1 := (List.getElem?_eq_some_iff.mp hi').1
        exact (List.getElem?_inj l1 S.tab.nd).mp (hi'.trans hi.symm)
       subst this
       rw [hx] at hy
       cases hy
       exact c
      ·obtain ⟨i2, hi2, hne2⟩ := mid m (by omega) (by omega)
       have : i' = i2 := by
        have l1 := (List.getElem?_eq_some_iff.mp hi').1
        exact (List.getElem?_inj l1 S.tab.nd).mp (hi'.trans hi2.symm)
       subst this
       intro z
       exact hne2 ((hashAt _ y hy).trans (by rw [z, hh]))
theorem ys7 {a b : Addr} {o : Obj} {es : Array (Int × Value)} {ep : Nat} {t : SetTable} {xs : List (List K × Addr)} {k : List K} {adding : Bool} {Q : SetFound -> Shared -> Prop} (hu : A.units < cLine)
  (ho : s.heap.get? a = some o) (hd : o.data = .set es ep t) (S : SetAt kn s.heap xs es t) (hk : IsTupleKey kn s.heap k b)
  (there : k ∈ xs.map (·.1) -> ∀ i, Q (.there i) s) (free : k ∉ xs.map (·.1) -> ∀ j, j <= t.mask -> j ∉ t.place.toList -> Way t.mask t.place.toList (tupleKeyHash kn k) j -> Q (.free j false) s) :
  wpAny (model prog w) A (setSearch a (.ref b) (tupleKeyHash kn k) adding) Q E s := by
 obtain ⟨e, he, h1, h2⟩ := S.tab.first (tupleKeyHash kn k)
 unfold setSearch
 exact yy5 hu ho hd S hk h1 h2 there free _ 0 none (Nat.zero_le _) (by omega) rfl fun m i x hm => by omega
theorem xf3 {α β : Type} {f : α -> β} : ∀ {l : List β} {m : List α}, l.Perm (m.map f) -> ∃ l' : List α, l = l'.map f /\ l'.Perm m := by
 intro l m h
 generalize hm : m.map f = m' at h
 induction h generalizing m with
 | nil => exact ⟨[], rfl, by cases m with | nil => exact .nil | cons a r => simp at hm⟩
 | @cons x l1 l2 p ih =>
  cases m with
  | nil => simp at hm
  | cons a r =>
   rw [List.map_cons] at hm
   obtain ⟨rfl, hr⟩ := List.cons.inj hm
   obtain ⟨l', e, q⟩ := ih hr
   exact ⟨a :: l', by rw [e]; rfl, q.cons a⟩
 | @swap x y l1 =>
  match m, hm with
  | a :: b :: r, hm =>
   simp at hm
   obtain ⟨rfl, rfl, rfl⟩ := hm
   exact ⟨b :: a :: r, rfl, .swap _ _ _⟩
 | @trans l1 l2 l3 p q ih1 ih2 =>
  obtain ⟨l', e, q'⟩ := ih2 hm
  obtain ⟨l'', e2, q2⟩ := ih1 e.symm
  exact ⟨l'', e2, q2.trans q'⟩
def yg2 (w : World) (n : Nat) (t : SetTable) : Prop := (n <= 1 \/ t.plain = false) /\ t.led = !(w.params.followText "set-order")
def xd0 (kn : KeyKind prog w K) (h : Heap) (a : Addr) (xs : List (List K × Addr)) : Prop := ∃ o es ep t, h.get? a = some o /\ o.ExactSet /\ o.data = .set es ep t /\ SetAt kn h xs es t /\ yg2 w xs.length t
theorem xm9 {h h' : Heap} {a : Addr} {o : Obj} {es : Array (Int × Value)} {ep : Nat} {t : SetTable} {ks : List K} {b : Addr} (ho : h.get? a = some o) (hd : o.data = .set es ep t) (hs : Heap.SameBut a h h') (k : IsTupleKey kn h ks b) : IsTupleKey kn h' ks b := by
 obtain ⟨o', items, n, h1, h2, h3, h4⟩ := k
 have ne : b ≠ a := by
  rintro rfl
  rw [ho] at h1
  cases h1
  rw [hd] at h3
  cases h3
 exact ⟨o', items, n, (hs.2 b ne).trans h1, h2, h3, h4⟩
theorem yv2 {n : Nat} (h : n <= 31) : xk5 (SetTable.sizeAbove (4 * n) - 1) /\ 4 * n < SetTable.sizeAbove (4 * n) /\ SetTable.sizeAbove (4 * n) <= 128 := by
 have key : (List.range 32).all (fun n => (decide (SetTable.sizeAbove (4 * n) - 1 = 7 \/ SetTable.sizeAbove (4 * n) - 1 = 15 \/ SetTable.sizeAbove (4 * n) - 1 = 31 \/ SetTable.sizeAbove (4 * n) - 1 = 63 \/ SetTable.sizeAbove (4 * n) - 1 = 127)) && decide (4 * n < SetTable.sizeAbove (4 * n)) && decide (SetTable.sizeAbove (4 * n) <= 128)) = true := by decide +kernel
 have := List.all_eq_true.mp key n (List.mem_range.mpr (by omega))
 simp only [Bool.and_eq_true, decide_eq_true_eq] at this
 exact ⟨this.1.1, this.1.2, this.2⟩
theorem xy2 {n : Nat} (h : n <= 60) : xk5 (SetTable.sizeAbove (n * 2) - 1) /\ n * 2 < SetTable.sizeAbove (n * 2) /\ SetTable.sizeAbove (n * 2) <= 128 := by
 have key : (List.range 61).all (fun n => (decide (SetTable.sizeAbove (n * 2) - 1 = 7 \/ SetTable.sizeAbove (n * 2) - 1 = 15 \/ SetTable.sizeAbove (n * 2) - 1 = 31 \/ SetTable.sizeAbove (n * 2) - 1 = 63 \/ SetTable.sizeAbove (n * 2) - 1 = 127)) && decide (n * 2 < SetTable.sizeAbove (n * 2)) && decide (SetTable.sizeAbove (n * 2) <= 128)) = true := by decide +kernel
 have := List.all_eq_true.mp key n (List.mem_range.mpr (by omega))
 simp only [Bool.and_eq_true, decide_eq_true_eq] at this
 exact ⟨this.1.1, this.1.2, this.2⟩
theorem stored {h : Heap} {a : Addr} {o : Obj} {es : Array (Int × Value)} {ep : Nat} {t : SetTable} (ho : h.get? a = some o) (hd : o.data = .set es ep t) (es' : Array (Int × Value)) (t' : SetTable) :
  (h.update a (Obj.putSet es' t')).get? a = some { o with data := .set es' (ep + 1) t' } := by
 have := Heap.get?_update_self (Obj.putSet es' t') ho (by rw [putSet_of es' t' hd]; rfl); rwa [putSet_of es' t' hd] at this
theorem xv3 {a : Addr} {o : Obj} {es : Array (Int × Value)} {ep : Nat} {t : SetTable} {xs : List (List K × Addr)} {wanted : Nat} {Q : Unit -> Shared -> Prop}
  (ho : s.heap.get? a = some o) (hex : o.ExactSet) (hd : o.data = .set es ep t) (hes : es.toList = xs.map fun x => (tupleKeyHash kn x.1, Value.ref x.2)) (hfit : t.fits es.size = true) (his : ∀ x ∈ xs, IsTupleKey kn s.heap x.1 x.2) (hnd : (xs.map (·.1)).Nodup)
  (hm : xk5 (SetTable.sizeAbove wanted - 1)) (hsz : SetTable.sizeAbove wanted <= 128) (hcap : xs.length * 5 < (SetTable.sizeAbove wanted - 1) * 3) (hle : xs.length <= SetTable.sizeAbove wanted - 1)
  (h : ∀ h' o' es' ep' t' xs', Heap.SameBut a s.heap h' -> h'.get? a = some o' -> o'.ExactSet -> o'.data = .set es' ep' t' -> xs'.Perm xs -> SetAt kn h' xs' es' t' -> t'.plain = t.plain -> t'.led = t.led -> t'.mask = SetTable.sizeAbove wanted - 1 -> Q () { s with heap := h' }) :
  wpAny (model prog w) A (setRelay a wanted) Q E s := by
 have hsize : es.size = xs.length := by rw [<- Array.length_toList, hes, List.length_map]
 unfold setRelay
 refine wpAny_bind (wpAny_setState_of ho hd hfit ?_)
 dsimp only
 rw [if_neg (Nat.not_lt.mpr (Nat.le_trans hsz (by rw [sizeLine_eq]; decide)))]
 obtain ⟨t', order, e, e1, e2, e3, e4, e5, perm, tab⟩ := zb6 hm es (by omega) t.finger (t.movedTo (SetTable.sizeAbove wanted - 1)) t.led t.plain
 have e' : t.relaid (es.map (·.1)) wanted = some (t', order) := e
 rw [e']
 have hs' : (order.filterMap (fun k => es[k]?)).size = es.size := by rw [<- Array.length_toList, perm.length_eq, Array.length_toList]
 obtain ⟨xs', px, ex⟩ : ∃ xs' : List (List K × Addr), xs'.Perm xs /\ (order.filterMap (fun k => es[k]?)).toList = xs'.map fun x => (tupleKeyHash kn x.1, Value.ref x.2) := by
  rw [hes] at perm
  obtain ⟨l, h1, h2⟩ := xf3 perm
  exact ⟨l, h2, h1⟩
 refine wpAny_bind ?_
 refine wpAny_mono (Q := fun r s' => r = (order.filterMap (fun k => es[k]?), t') /\ s = s') ?_ ?_ (fun _ _ x => x)
 ·show wpAny _ _ (if ((order.filterMap (fun k => es[k]?)).size != es.size) = true then _ else _) _ _ _
  rw [if_neg (by rw [hs']; simp)]
  exact wpAny_pure ⟨rfl, rfl⟩
 ·rintro _ _ ⟨rfl, rfl⟩
  dsimp only
  refine wpAny_storeSet_of ho hd ?_ (by rw [hs', hsize, sizeLine_eq]; omega)
  have sb := Heap.SameBut.update s.heap a (Obj.putSet (order.filterMap (fun k => es[k]?)) t')
  refine h _ _ _ _ _ xs' sb (stored ho hd _ _) hex rfl px ⟨ex, fun x hx => xm9 ho hd sb (his x (px.mem_iff.mp hx)), ?_, ?_, ?_⟩ e3 e2 e1
  ·exact (px.map _).nodup_iff.mpr hnd
  ·rw [ex, List.map_map] at tab
   exact tab
  ·rw [px.length_eq, e1]
   exact hcap
end
theorem Tab.plain {t : SetTable} {hs : List Int} (T : Tab t hs) (b : Bool) : Tab { t with plain := b } hs := ⟨T.mask, T.dum, T.pw, T.le, T.len, T.room, T.way⟩
section
variable {prog : Program} {w : World} {K : Type} [DecidableEq K] {kn : KeyKind prog w K} {A : Around} {E : Value -> Shared -> Prop} {s : Shared}
def xn0 (h : Heap) (b : Addr) : Prop := ∃ o items n, h.get? b = some o /\ o.cls = .type "tuple" /\ o.data = .seq items n /\ (∀ v ∈ items.toList, v.scannable = true) /\ items.toList.all plainKind = false
theorem yl7 {a b : Addr} {xs : List (List K × Addr)} {k : List K} {Q : Bool -> Shared -> Prop} (hu : A.units < cLine) (hS : xd0 kn s.heap a xs) (hk : IsTupleKey kn s.heap k b) (hv : xn0 s.heap b) (hl : xs.length <= 36)
  (h : ∀ r h' xs', Heap.SameBut a s.heap h' -> xd0 kn h' a xs' -> (k ∈ xs.map (·.1) -> xs' = xs) -> (k ∉ xs.map (·.1) -> xs'.Perm ((k, b) :: xs)) -> Q r { s with heap := h' }) :
  wpAny (model prog w) A (setAddHashed a (.ref b) (tupleKeyHash kn k)) Q E s := by
 obtain ⟨o, es, ep, t, ho, hex, hd, S, hpl⟩ := hS
 unfold setAddHashed setAddHashedIn; refine wpAny_holding (wpAny_bind (wpAny_setState_of ho hd S.fits ?_))
 dsimp only
 have hb : byScan (Value.ref b) es = false := rfl
 rw [hb]
 simp only [Bool.false_eq_true, if_false]; refine wpAny_bind (ys7 hu ho hd S hk (fun hin i => ?_) fun hnin j hj hjn hway => ?_)
 ·dsimp only
  refine wpAny_pure ?_
  have := h false s.heap xs (Heap.SameBut.refl a s.heap) ⟨o, es, ep, t, ho, hex, hd, S, hpl⟩ (fun _ => rfl) (fun z => absurd hin z)
  have e : s = { s with heap := s.heap } := (by cases s; rfl); rw [e]; exact this
 ·dsimp only
  refine wpAny_bind (wpAny_setState_of ho hd S.fits ?_)
  dsimp only
  have hcap := S.cap
  have hlen := S.tab.len
  rw [List.length_map] at hlen
  have hm7 : 7 <= t.mask := by rcases S.tab.mask with z | z | z | z | z <;> omega
  obtain ⟨p, hp, ep2, T1⟩ := S.tab.put hjn hj hway (by rw [List.length_map]; omega)
  rw [List.length_map] at hp
  generalize hput : t.put j = tp at ep2 T1
  obtain ⟨t1, p'⟩ := tp
  dsimp only at ep2 T1 ⊢
  subst ep2
  have hm1 : t1.mask = t.mask := by have := congrArg (fun q : SetTable × Nat => q.1.mask) hput; exact this.symm
  have hld1 : t1.led = t.led := by have := congrArg (fun q : SetTable × Nat => q.1.led) hput; exact this.symm
  have hp1 : t1.plain = t.plain := by have := congrArg (fun q : SetTable × Nat => q.1.plain) hput; exact this.symm
  have hes1 : (SetTable.insertAt es p' (tupleKeyHash kn k, Value.ref b)).toList = (xs.take p' ++ (k, b) :: xs.drop p').map fun x => (tupleKeyHash kn x.1, Value.ref x.2) := by
   rw [xr6 _ _ _ (by rw [S.size]; exact hp), S.es, List.map_append, List.map_cons, List.map_take, List.map_drop]
  have perm : (xs.take p' ++ (k, b) :: xs.drop p').Perm ((k, b) :: xs) := by
   refine List.perm_middle.trans (.cons _ ?_)
   rw [List.take_append_drop]
  have hnd1 : ((xs.take p' ++ (k, b) :: xs.drop p').map (·.1)).Nodup := by
   refine (perm.map _).nodup_iff.mpr ?_
   rw [List.map_cons, List.nodup_cons]; exact ⟨hnin, S.nd⟩
  have T2 : Tab t1 ((xs.take p' ++ (k, b) :: xs.drop p').map fun x => tupleKeyHash kn x.1) := by
   rw [List.map_append, List.map_cons, List.map_take, List.map_drop]
   exact T1
  generalize hx1 : xs.take p' ++ (k, b) :: xs.drop p' = xs1 at hes1 perm hnd1 T2
  have hl1 : xs1.length = xs.length + 1 := by rw [perm.length_eq, List.length_cons]
  have hsz1 : (SetTable.insertAt es p' (tupleKeyHash kn k, Value.ref b)).size = xs1.length := by rw [<- Array.length_toList, hes1, List.length_map]
  have his1 : ∀ x ∈ xs1, IsTupleKey kn s.heap x.1 x.2 := fun x hx => by
   rcases List.mem_cons.mp (perm.mem_iff.mp hx) with rfl | z
   ·exact hk
   ·exact S.is x z
  have tail : ∀ t2 : SetTable, t2.mask = t1.mask -> t2.plain = false -> t2.led = t1.led -> Tab t2 (xs1.map fun x => tupleKeyHash kn x.1) ->
    wpAny (model prog w) A (do
     storeSet a (SetTable.insertAt es p' (tupleKeyHash kn k, Value.ref b)) t2
     if (!false && t2.tooFull) = true then do
       setRelay a (SetTable.grown (es.size + 1))
       pure true
      else pure true) Q E s := by
   intro t2 hm2 hp2 hl2 Tt
   have hled : t2.led = !(w.params.followText "set-order") := by rw [hl2, hld1]; exact hpl.2
   refine wpAny_bind (wpAny_storeSet_of ho hd ?_ (by rw [hsz1, sizeLine_eq]; omega))
   have ho1 := stored ho hd (SetTable.insertAt es p' (tupleKeyHash kn k, Value.ref b)) t2
   have sb := Heap.SameBut.update s.heap a (Obj.putSet (SetTable.insertAt es p' (tupleKeyHash kn k, Value.ref b)) t2)
   generalize s.heap.update a (Obj.putSet (SetTable.insertAt es p' (tupleKeyHash kn k, Value.ref b)) t2) = h1 at ho1 sb ⊢
   have his2 : ∀ x ∈ xs1, IsTupleKey kn h1 x.1 x.2 := fun x hx => xm9 ho hd sb (his1 x hx)
   have hfill : t2.fill = xs1.length := by
    unfold SetTable.fill
    rw [Tt.dum]
    have := Tt.len
    rw [List.length_map] at this
    simp at this ⊢
    exact this
   have hfit : t2.fits (SetTable.insertAt es p' (tupleKeyHash kn k, Value.ref b)).size = true := by
    unfold SetTable.fits
    have h1 := Tt.len
    have h2 := Tt.room
    rw [List.length_map] at h1 h2
    rw [hfill, hsz1]
    simp only [Array.length_toList] at h1
    simp only [Bool.and_eq_true, beq_iff_eq, decide_eq_true_eq]
    exact ⟨h1, h2⟩
   by_cases full : (!false && t2.tooFull) = true
   ·rw [if_pos full]
    have tf : t2.fill * 5 >= t2.mask * 3 := by simpa [SetTable.tooFull] using full
    have mm : t2.mask = t.mask := hm2.trans hm1
    have sm : xs1.length <= 31 := by
     rw [hfill, mm] at tf
     rcases S.tab.mask with z | z | z | z | z <;> omega
    have gr : SetTable.grown (es.size + 1) = 4 * xs1.length := by
     unfold SetTable.grown
     rw [S.size, hl1, if_neg (by omega)]
     omega
    obtain ⟨g1, g2, g3⟩ := yv2 (n := xs1.length) (by omega)
    rw [gr]
    refine wpAny_bind (xv3 (s := { s with heap := h1 }) (kn := kn) (xs := xs1) ho1 hex rfl hes1 hfit his2 hnd1 g1 g3 (by omega) (by omega) fun h' o' es' ep' t' xs' sb' ho' hex' hd' px S' pl' led' mk' => wpAny_pure ?_)
    exact h true h' xs' (sb.trans sb') ⟨o', es', ep', t', ho', hex', hd', S', .inr (by rw [pl']; exact hp2), by rw [led']; exact hled⟩ (fun z => absurd z hnin) (fun _ => px.trans perm)
   ·rw [if_neg full]
    refine wpAny_pure (h true h1 xs1 sb ⟨_, _, _, t2, ho1, hex, rfl, ⟨hes1, his2, hnd1, Tt, ?_⟩, .inr hp2, hled⟩ (fun z => absurd z hnin) (fun _ => perm))
    have : ¬ (t2.fill * 5 >= t2.mask * 3) := fun z => full (by unfold SetTable.tooFull; simp [z])
    rw [hfill] at this
    omega
  obtain ⟨ob, items, n, hb1, hb2, hb3, hb4, hb5⟩ := hv
  by_cases cp : t1.plain = true
  ·rw [if_pos cp]
   refine wpAny_bind (yf7 hb1 hb2 hb3 hb4 ?_)
   rw [hb5]
   simp only [Bool.false_eq_true, if_false]; exact tail _ rfl rfl rfl (T2.plain false)
  ·rw [if_neg cp]
   refine wpAny_bind (wpAny_pure ?_); simp only [if_true]
   exact tail t1 rfl (by simpa using cp) rfl T2
end
open PySem PyProof.Rows
abbrev xb5 (led : Bool) : Obj := { cls := .type "set", dict := none, data := .set #[] 0 (.fresh 0 0 led) }
section
variable {w : World} {prog : Program} {A : Around} {E : Value -> Shared -> Prop} {s : Shared}
theorem new_code (x : Value) {Q₁ : Value -> Shared -> Prop} (h : Q₁ (.ref s.heap.objs.size) { s with heap := s.heap.push (xb5 (!(w.params.followText "set-order"))) }) :
  codeAny (model prog w) A (.call (.builtin "set.__new__") ⟨[.type "set", x], []⟩) (wants Q₁ E) s := by
 refine codeAny_of_tree ?_
 have step := PySem.F.newCall_set_1 x
 show wpAny _ A.in1 (checkBuiltinCall "set.__new__" ⟨[.type "set", x], []⟩ >>= fun _ => again (.builtin "set.__new__" ⟨[.type "set", x], []⟩)) _ _ s
 refine wpAny_bind (wpAny_of_eq step (wpAny_pure ⟨plainId_quiet PySem.F.plain_set_new _, ?_⟩))
 refine codeAny_builtin PySem.F.entry_set_new ?_
 rw [Around.under_plainId PySem.F.plain_set_new _]
 delta Builtin.«set.__new__»; unfold Builtin.Frozenset.newClass
 have self := sub_set_self
 cases s with
 | mk hp g d tk os =>
  dsimp only at h ⊢
  wp_walk
  refine wpAny_askSetting (wpAny_pure ?_); simp only [newObj]
  exact wpAny_bind (wpAny_alloc (wpAny_pure (wpAny_pure h)))
theorem yy4 {x : Value} {Q : Value -> Shared -> Prop}
  (upd : ∀ (led : Bool) (A' : Around), led = (!(w.params.followText "set-order")) -> A'.units <= A.units + 8 -> A'.handled = A.handled -> wpAny (model prog w) A' (Builtin.Frozenset.updateFrom "set.__init__" s.heap.objs.size x) (fun _ s₂ => Q (.ref s.heap.objs.size) s₂) E { s with heap := s.heap.push (xb5 led) }) :
  wpAny (model prog w) A (call (.type "set") [x]) Q E s := by
 obtain ⟨c, tl, hmro⟩ := PySem.F.called_set.mro
 have hmade := PySem.F.called_set.made
 have hsub := PySem.F.called_set.sub
 refine wpAny_call (codeAny_of_tree ?_); show wpAny _ _ (callAny (.type "set") _) _ _ _
 refine wpAny_pure ⟨Code.quiet_builtin _ (by decide +kernel), codeAny_builtin PySem.F.entry_type_call ?_⟩
 rw [Around.under_plain (weight_type_call_type "set" [x] []) rfl]
 have h1 := PySem.F.called_set.notType
 have h2 := PySem.F.called_set.canCreate
 have hct := PySem.F.typeCall_set_1 x
 (repeat (any_goals (first | assumption | wp_step))); refine codeAny_mono (new_code x (E := E) (Q₁ := fun obj s₁ => ∃ led : Bool, led = (!(w.params.followText "set-order")) /\ obj = .ref s.heap.objs.size /\ s₁ = { s with heap := s.heap.push (xb5 led) }) ⟨_, rfl, rfl, rfl⟩) fun r s₁ hr => ?_
 cases r with
 | error e => exact hr
 | ok fl =>
  cases fl with
  | ret obj =>
   obtain ⟨led, hled, rfl, rfl⟩ := hr
   have hS : (s.heap.push (xb5 led)).get? s.heap.objs.size = some (xb5 led) := Heap.get?_push_size _ rfl
   have hT : Shared.TypeIs { s with heap := s.heap.push (xb5 led) } (.ref s.heap.objs.size) "set" := ⟨_, hS, rfl⟩
   have hli := PySem.F.called_set.init.lookup
   have hbi := PySem.F.called_set.init.bind (.ref s.heap.objs.size)
   (repeat (any_goals (first | assumption | wp_step))); refine codeAny_mono (codeAny_call_builtin (R := wants (fun r s₂ => r = .none /\ Q (.ref s.heap.objs.size) s₂) E) PySem.F.called_set.init.plain PySem.F.entry_set_init (check_set_init_1 hT ?_)) fun r₂ s₂ hr₂ => ?_
   ·unfold Builtin.«set.__init__» noKeywords; generalize hPI : Builtin.Frozenset.updateFrom = PI
    wp_walk
    subst hPI
    exact wpAny_mono (upd led A.in1.in1 hled (by simp [Around.in1_units]) (by simp)) (fun r s' q => wpAny_pure ⟨rfl, q⟩) (fun e s' x => x)
   ·cases r₂ with
    | error e => exact hr₂
    | ok fl₂ =>
     cases fl₂ with
     | ret r =>
      obtain ⟨rfl, hq⟩ := hr₂; repeat (any_goals (first | assumption | wp_step))
     | _ => exact hr₂.elim
  | _ => exact hr.elim
end
section
variable {prog : Program} {w : World} {K : Type} [DecidableEq K] {kn : KeyKind prog w K} {A : Around} {E : Value -> Shared -> Prop} {s : Shared}
theorem yh1 : isSubtype (Value.type "dict") (.type "set") = pure false := by rw [isSubtype_type]; kernel_rfl
theorem yh2 : isSubtype (.type "dict") (.type "frozenset") = pure false := by rw [isSubtype_type]; kernel_rfl
theorem set_room {S : Addr} {led : Bool} {n m : Nat} {Q : Unit -> Shared -> Prop} (hled : led = !(w.params.followText "set-order")) (hS : s.heap.get? S = some (xb5 led)) (hl : n <= 36) (hm : m = n) (h : ∀ h', Heap.SameBut S s.heap h' -> xd0 kn h' S [] -> Q () { s with heap := h' }) :
  wpAny (model prog w) A (setRoomFor S m) Q E s := by
 subst hm
 have T0 := Tab.fresh 0 0 led
 have S0 : SetAt kn s.heap [] #[] (SetTable.fresh 0 0 led) := ⟨rfl, fun x hx => by simp at hx, List.nodup_nil, T0, by show 0 * 5 < 7 * 3; decide⟩
 unfold setRoomFor
 refine wpAny_bind (wpAny_setState_of hS rfl S0.fits ?_)
 dsimp only
 cases e : (SetTable.fresh 0 0 led).roomFor m with
 | none =>
  dsimp only
  refine wpAny_pure ?_
  have := h s.heap (Heap.SameBut.refl _ _) ⟨_, _, _, _, hS, ⟨rfl, rfl, rfl⟩, rfl, S0, (Or.inl (Nat.zero_le 1)), hled⟩
  have e : s = { s with heap := s.heap } := (by cases s; rfl); rw [e]; exact this
 | some wanted =>
  dsimp only
  have hw : wanted = m * 2 /\ 4 < m := by
   unfold SetTable.roomFor at e
   split at e
   ·rename_i c
    have c : (0 + m) * 5 >= 7 * 3 := c
    cases e
    exact ⟨by show (0 + m) * 2 = m * 2; omega, by omega⟩
   ·cases e
  obtain ⟨g1, g2, g3⟩ := xy2 (n := m) (by omega)
  rw [hw.1]
  refine xv3 (kn := kn) (xs := []) hS ⟨rfl, rfl, rfl⟩ rfl rfl S0.fits (fun x hx => by simp at hx) List.nodup_nil g1 g3 (by simp; omega) (Nat.zero_le _) fun h' o' es' ep' t' xs' sb ho' hex' hd' px S' pl ld mk => ?_
  have : xs' = [] := List.Perm.eq_nil px
  subst this
  exact h h' sb ⟨o', es', ep', t', ho', hex', hd', S', Or.inl (Nat.zero_le 1), by rw [ld]; exact hled⟩
theorem upd_dict {d S : Addr} {xs : List (List K × Addr × Value)} {led : Bool} {Q : Unit -> Shared -> Prop} (hu : A.units < cLine) (hled : led = !(w.params.followText "set-order")) (hS : s.heap.get? S = some (xb5 led)) (hd : s.heap.DictOfH (tupleKind kn) d xs) (hm : (d == sysModules) = false) (hl : xs.length <= 36)
  (htx : ∀ x ∈ xs, xn0 s.heap x.2.1) (h : ∀ h' ys, Heap.SameBut S s.heap h' -> xd0 kn h' S ys -> ys.Perm (xs.map fun x => (x.1, x.2.1)) -> Q () { s with heap := h' }) :
  wpAny (model prog w) A (Builtin.Frozenset.updateFrom "set.__init__" S (.ref d)) Q E s := by
 have hT := hd.typeIs
 unfold Builtin.Frozenset.updateFrom Builtin.Frozenset.isAnySet
 have h1 := yh1
 have h2 := yh2
 generalize hPI : setRoomFor = PI
 wp_walk
 subst hPI
 have hd0 := hd
 obtain ⟨od, es, ep, hod, hxd, hdd, hes, hik, hnd⟩ := hd
 refine wpAny_loadPart hod ?_
 rw [hdd]
 dsimp only
 refine wpAny_pure ?_
 have hsz : es.size = xs.length := (by rw [<- Array.length_toList, hes, List.length_map]); refine wpAny_bind (wpAny_dictEntries hod hdd ?_)
 have hne : d ≠ S := by
  rintro rfl
  rw [hod] at hS
  cases hS
  cases hdd
 refine wpAny_bind (set_room (kn := kn) hled hS hl hsz fun h1 sb1 S1 => ?_)
 have hod1 : h1.get? d = some od := (sb1.2 d hne).trans hod
 refine wpAny_bind (wpAny_dictEntries (s := { s with heap := h1 }) hod1 hdd ?_)
 rw [hsz]
 refine wpAny_bind ?_
 rw [Std.Legacy.Range.forIn_eq_forIn_range']; simp only [Std.Legacy.Range.size, Nat.sub_zero, Nat.add_sub_cancel, Nat.div_one]
 refine wpAny_forIn_list _
  (fun rest _ s' => ∃ h' i ys, s' = { s with heap := h' } /\ rest = List.range' i (xs.length - i) /\ i <= xs.length /\ Heap.SameBut S s.heap h' /\ xd0 kn h' S ys /\ ys.Perm ((xs.take i).map fun x => (x.1, x.2.1)))
  _ ?_ ?_ _ _ ⟨h1, 0, [], rfl, by simp, Nat.zero_le _, sb1, S1, by simp⟩
 ·rintro x rest b s' ⟨h', i, ys, rfl, hr, hi, hs', hSy, hp⟩
  have hlt : i < xs.length := by
   rcases Nat.lt_or_ge i xs.length with h | h
   ·exact h
   ·simp [Nat.sub_eq_zero_of_le h] at hr
  obtain ⟨rfl, hrest⟩ : x = i /\ rest = List.range' (i + 1) (xs.length - (i + 1)) := by
   have e : xs.length - i = (xs.length - (i + 1)) + 1 := by omega
   rw [e, List.range'_succ] at hr; injection hr with h1 h2
   exact ⟨h1, h2⟩
  have hod' : h'.get? d = some od := (hs'.2 d hne).trans hod
  refine wpAny_bind (wpAny_dictEntries (s := { s with heap := h' }) hod' hdd ?_)
  have hxi : xs[x]? = some xs[x] := List.getElem?_eq_getElem hlt
  have hex : es[x]? = some (entryOfKey (tupleKind kn) xs[x]) := by rw [<- Array.getElem?_toList, hes, List.getElem?_map, hxi]; rfl
  rw [hex]
  dsimp only
  have hmem : xs[x] ∈ xs := List.getElem_mem hlt
  have tup' : ∀ y ∈ xs, IsTupleKey kn h' y.1 y.2.1 := fun y hy => by
   obtain ⟨o1, it, n1, a1, a2, a3, a4⟩ := hik y hy
   have ne : y.2.1 ≠ S := by
    intro e
    rw [e, hS] at a1
    cases a1
    cases a3
   exact ⟨o1, it, n1, (hs'.2 _ ne).trans a1, a2, a3, a4⟩
  have txt' : ∀ y ∈ xs, xn0 h' y.2.1 := fun y hy => by
   obtain ⟨o1, it, n1, a1, a2, a3, a4⟩ := htx y hy
   have ne : y.2.1 ≠ S := by
    intro e
    rw [e, hS] at a1
    cases a1
    cases a3
   exact ⟨o1, it, n1, (hs'.2 _ ne).trans a1, a2, a3, a4⟩
  have hlen : ys.length = x := by
   rw [hp.length_eq, List.length_map, List.length_take]
   omega
  have hnin : xs[x].1 ∉ ys.map (·.1) := by
   intro hin
   have : xs[x].1 ∈ (xs.take x).map (·.1) := by
    have := (hp.map (·.1)).mem_iff.mp hin
    rw [List.map_map] at this
    exact this
   obtain ⟨y, hy, e⟩ := List.mem_map.mp this
   obtain ⟨m, hm⟩ := List.getElem?_of_mem hy
   rw [List.getElem?_take] at hm
   split at hm
   ·rename_i lt
    have l1 : m < xs.length := by omega
    rw [List.getElem?_eq_getElem l1] at hm
    cases hm
    have := List.pairwise_iff_getElem.mp (List.nodup_iff_pairwise_ne.mp hnd) m x (by simpa using l1) (by simpa using hlt) lt
    simp only [List.getElem_map] at this
    exact this e
   ·cases hm
  show wpAny _ _ (holding [Value.ref xs[x].2.1] (setAddHashed S (.ref xs[x].2.1) (tupleKeyHash kn xs[x].1)) >>= _) _ _ _
  refine wpAny_bind (wpAny_holding (yl7 (s := { s with heap := h' }) hu hSy (tup' _ hmem) (txt' _ hmem) (by omega) fun r h'' ys' sb'' hSy' _ hperm => ?_))
  have hod'' : h''.get? d = some od := (sb''.2 d hne).trans hod'
  refine wpAny_bind (wpAny_dictEpoch (s := { s with heap := h'' }) hod'' hdd ?_)
  rw [if_neg (by simp)]
  refine wpAny_pure ⟨h'', x + 1, ys', rfl, hrest, hlt, hs'.trans sb'', hSy', ?_⟩
  refine (hperm hnin).trans ?_
  rw [List.take_succ, hxi, Option.toList_some, List.map_append, List.map_cons, List.map_nil]
  exact (List.perm_append_comm (l₁ := [(xs[x].1, xs[x].2.1)]) (l₂ := ys)).trans (hp.append_right _)
 ·rintro b s' ⟨h', i, ys, rfl, hr, hi, hs', hSy, hp⟩
  have hin : i = xs.length := by
   rcases Nat.lt_or_ge i xs.length with hlt | h
   ·rw [show xs.length - i = (xs.length - (i + 1)) + 1 by omega, List.range'_succ] at hr
    simp at hr
   ·omega
  subst hin
  rw [List.take_length] at hp
  exact wpAny_pure (h h' ys hs' hSy hp)
end
theorem xi3 {α : Type} : ∀ {l : List α} {i : Nat} {x : α}, l[i]? = some x -> l.Perm (x :: l.eraseIdx i)
 | [], i, x, h => by simp at h
 | a :: l, 0, x, h => by simp at h; subst h; exact .refl _
 | a :: l, i + 1, x, h => by
  have h : l[i]? = some x := by simpa using h
  exact ((xi3 h).cons a).trans (.swap _ _ _)
section
variable {A : Around} {M : Model} {E : Value -> Shared -> Prop} {s : Shared}
theorem yw3 {src : Source} {n : Nat} {Q : Nat -> Shared -> Prop} (hn : n ≠ 0) (h : ∀ i d', i < n -> Q i { s with drawn := d' }) : wpAny M A (choose src n) Q E s :=
 fun Γ p _ => ⟨hn, h _ _ (Nat.mod_lt _ (Nat.pos_of_ne_zero hn))⟩
theorem xy1 {α : Type} : ∀ (n : Nat) (xs : List α) {s : Shared} {Q : List α -> Shared -> Prop}, xs.length <= n -> (∀ l d', l.Perm xs -> Q l { s with drawn := d' }) -> wpAny M A (drawOrder n xs) Q E s
 | 0, xs, s, Q, hl, h => by
  have : xs = [] := List.length_eq_zero_iff.mp (by omega)
  subst this
  unfold drawOrder
  exact wpAny_pure (h [] s.drawn (.refl _))
 | n + 1, [], s, Q, hl, h => by
  unfold drawOrder
  exact wpAny_pure (h [] s.drawn (.refl _))
 | n + 1, x :: xs, s, Q, hl, h => by
  unfold drawOrder
  refine wpAny_bind (yw3 (by simp) fun i d' hi => ?_)
  obtain ⟨y, hy⟩ : ∃ y, (x :: xs)[i]? = some y := ⟨_, List.getElem?_eq_getElem hi⟩
  rw [hy]
  dsimp only
  have hlen : ((x :: xs).eraseIdx i).length <= n := by
   have := (xi3 hy).length_eq
   simp only [List.length_cons] at this hl
   omega
  refine wpAny_bind (xy1 n _ hlen fun l d'' hp => wpAny_pure ?_)
  exact h (y :: l) d'' ((hp.cons y).trans (xi3 hy).symm)
end
theorem yz4 {α : Type} (next : Nat -> Nat) : ∀ (fuel k : Nat) (left : List α) (out : Array α), left.length <= fuel -> (pickOrder.go next fuel k left out).toList.Perm (out.toList ++ left)
 | 0, k, left, out, h => by
  have : left = [] := List.length_eq_zero_iff.mp (by omega)
  subst this
  unfold pickOrder.go
  simp
 | fuel + 1, k, left, out, h => by
  unfold pickOrder.go
  cases left with
  | nil => simp
  | cons a r =>
   have hi : next k % (a :: r).length < (a :: r).length := Nat.mod_lt _ (by simp)
   rw [List.getElem?_eq_getElem hi]
   dsimp only
   have hp := xi3 (List.getElem?_eq_getElem hi)
   refine (yz4 next fuel (k + 1) _ _ (by have := hp.length_eq; simp only [List.length_cons] at this h ⊢; omega)).trans ?_
   rw [Array.toList_push, List.append_assoc]
   exact (hp.symm).append_left _
theorem yi1 {α : Type} (next : Nat -> Nat) (xs : Array α) : (pickOrder next xs).toList.Perm xs.toList := by
 have := yz4 next xs.size 0 xs.toList #[] (by simp)
 simpa [pickOrder] using this
section
variable {prog : Program} {w : World} {K : Type} [DecidableEq K] {kn : KeyKind prog w K} {A : Around} {E : Value -> Shared -> Prop} {s : Shared}
theorem yp1 {a : Addr} {o : Obj} {es : Array (Int × Value)} {ep : Nat} {t : SetTable} {xs : List (List K × Addr)} {Q : Array (Int × Value) -> Shared -> Prop} (ho : s.heap.get? a = some o) (hd : o.data = .set es ep t) (S : SetAt kn s.heap xs es t) (hpl : yg2 w xs.length t)
  (h : ∀ es' d', es'.toList.Perm es.toList -> Q es' { s with drawn := d' }) : wpAny (model prog w) A (setWalk a) Q E s := by
 unfold setWalk setsByText
 refine wpAny_bind (wpAny_setState_of ho hd S.fits ?_)
 dsimp only
 refine wpAny_bind (wpAny_bind (wpAny_askSetting (wpAny_pure ?_))); split
 ·refine wpAny_bind (wpAny_askSetting (wpAny_pure ?_))
  have := h (pickOrder (w.params.setOrder a ep) es) s.drawn (yi1 _ _)
  exact this
 ·show wpAny _ _ (if (!t.plain && decide (es.size > 1)) = true then _ else _) _ _ _
  by_cases c : (!t.plain && decide (es.size > 1)) = true
  ·rw [if_pos c]
   refine wpAny_bind (xy1 _ _ (by simp) fun l d' hp => wpAny_pure ?_)
   exact h l.toArray d' (by simpa using hp)
  ·rw [if_neg c]
   have small : ¬ es.size > 1 := fun z => by
    rcases hpl.1 with q | q
    ·rw [S.size] at z; omega
    ·rw [q] at c; simp at c; omega
   show wpAny _ _ ((if (!t.led && decide (es.size > 1)) = true then (unsupported "set:maker-not-led" : Sem Unit) else pure ()) >>= fun _ => pure es) _ _ _
   rw [if_neg (by simp [small])]
   refine wpAny_bind (wpAny_pure (wpAny_pure ?_)); exact h es s.drawn (.refl _)
theorem yy1 {a f : Addr} {o : Obj} {es : Array (Int × Value)} {ep : Nat} {t : SetTable} {xs : List (List K × Addr)} {Q : Array (Int × Value) -> Shared -> Prop} (ho : s.heap.get? a = some o) (hd : o.data = .set es ep t) (S : SetAt kn s.heap xs es t) (hpl : yg2 w xs.length t)
  (h : ∀ es' d', es'.toList.Perm es.toList -> Q es' { s with drawn := d' }) : wpAny (model prog w) A (setWalkUnseen a [f] (some f)) Q E s := by
 unfold setWalkUnseen setsByText
 refine wpAny_bind (wpAny_setState_of ho hd S.fits ?_)
 dsimp only
 refine wpAny_bind (wpAny_bind (wpAny_askSetting (wpAny_pure ?_))); split
 ·exact yp1 ho hd S hpl h
 ·rename_i c
  have big : 1 < es.size := by
   apply Classical.byContradiction
   intro z
   apply c
   simp
   omega
  have quiet : wpAny (model prog w) A (setsQuiet [a, f]) (fun r s' => r = false /\ s' = s) E s := by
   unfold setsQuiet
   refine wpAny_bind ?_
   simp only [List.forIn_cons]
   refine wpAny_bind ?_
   refine wpAny_bind (wpAny_setEntries_of ho hd S.fits ?_)
   rw [<- Array.forIn_toList, S.es]
   cases xs with
   | nil => rw [S.size] at big; simp at big
   | cons x0 r0 =>
    rw [List.map_cons, List.forIn_cons]
    refine wpAny_bind (wpAny_bind ?_); dsimp only
    have hT := (S.is x0 (by simp)).typeIs
    refine wpAny_bind (wpAny_specialOf hT PySem.F.slot_tuple_eq.lookup ?_)
    rw [if_pos (by decide +kernel)]
    refine wpAny_pure ?_
    dsimp only
    refine wpAny_pure ?_
    dsimp only
    refine wpAny_pure ?_
    dsimp only
    refine wpAny_pure ?_
    dsimp only
    exact wpAny_pure ⟨rfl, rfl⟩
  refine wpAny_bind (wpAny_mono quiet (fun r s' ⟨h1, h2⟩ => ?_) (fun _ _ x => x))
  subst h1 h2
  simp only [Bool.not_false, if_true]; exact yp1 ho hd S hpl h
theorem yy3 {a : Addr} {o : Obj} {es : Array (Int × Value)} {ep : Nat} {t : SetTable} {xs : List (List K × Addr)} {m : Nat} {Q : Unit -> Shared -> Prop} (ho : s.heap.get? a = some o) (hex : o.ExactSet) (hd : o.data = .set es ep t) (S : SetAt kn s.heap xs es t) (hl : xs.length + m <= 60)
  (h : ∀ h' o' es' ep' t' xs', Heap.SameBut a s.heap h' -> h'.get? a = some o' -> o'.ExactSet -> o'.data = .set es' ep' t' -> xs'.Perm xs -> SetAt kn h' xs' es' t' -> t'.plain = t.plain -> t'.led = t.led -> (xs.length + m) * 5 < t'.mask * 3 -> Q () { s with heap := h' }) :
  wpAny (model prog w) A (setRoomFor a m) Q E s := by
 unfold setRoomFor
 refine wpAny_bind (wpAny_setState_of ho hd S.fits ?_)
 dsimp only
 have hlen := S.tab.len
 rw [List.length_map] at hlen
 have hfill : t.fill = xs.length := by
  unfold SetTable.fill
  rw [S.tab.dum]
  simp at hlen ⊢
  exact hlen
 cases e : t.roomFor m with
 | none =>
  dsimp only
  refine wpAny_pure ?_
  have big : (xs.length + m) * 5 < t.mask * 3 := by
   unfold SetTable.roomFor at e
   split at e
   ·cases e
   ·rename_i c
    rw [hfill] at c
    omega
  have := h s.heap o es ep t xs (Heap.SameBut.refl _ _) ho hex hd (.refl _) S rfl rfl big
  have e : s = { s with heap := s.heap } := (by cases s; rfl); rw [e]; exact this
 | some wanted =>
  dsimp only
  have hw : wanted = (xs.length + m) * 2 /\ t.mask * 3 <= (xs.length + m) * 5 := by
   unfold SetTable.roomFor at e
   split at e
   ·rename_i c
    rw [hfill] at c
    cases e
    refine ⟨?_, c⟩
    rw [show t.place.size = xs.length by simpa using hlen]
   ·cases e
  have hm7 : 7 <= t.mask := by rcases S.tab.mask with z | z | z | z | z <;> omega
  obtain ⟨g1, g2, g3⟩ := xy2 (n := xs.length + m) (by omega)
  rw [hw.1]
  refine xv3 (kn := kn) (xs := xs) ho hex hd S.es S.fits S.is S.nd g1 g3 (by omega) (by omega) fun h' o' es' ep' t' xs' sb ho' hex' hd' px S' pl ld mk => ?_
  exact h h' o' es' ep' t' xs' sb ho' hex' hd' px S' pl ld (by rw [mk]; omega)
end
structure Both {K : Type} (zs xs ys : List (List K × Addr)) : Prop where
 from_ : ∀ z ∈ zs, z ∈ xs \/ z ∈ ys
 keys : ∀ k, k ∈ zs.map (·.1) ↔ k ∈ xs.map (·.1) \/ k ∈ ys.map (·.1)
section
variable {prog : Program} {w : World} {K : Type} [DecidableEq K] {kn : KeyKind prog w K} {A : Around} {E : Value -> Shared -> Prop} {s : Shared}
theorem keep_set {h h' : Heap} {a b : Addr} {xs : List (List K × Addr)} {oa : Obj} {ea : Array (Int × Value)} {pa : Nat} {ta : SetTable} (hoa : h.get? a = some oa) (hda : oa.data = .set ea pa ta) (hb : xd0 kn h b xs) (hab : a ≠ b) (sb : Heap.SameBut a h h') : xd0 kn h' b xs := by
 obtain ⟨o, es, ep, t, h1, h2, h3, S, h5⟩ := hb
 exact ⟨o, es, ep, t, (sb.2 b (Ne.symm hab)).trans h1, h2, h3, ⟨S.es, fun x hx => xm9 hoa hda sb (S.is x hx), S.nd, S.tab, S.cap⟩, h5⟩
theorem yq5 {h h' : Heap} {a : Addr} {o : Obj} {es : Array (Int × Value)} {ep : Nat} {t : SetTable} {b : Addr} (ho : h.get? a = some o) (hd : o.data = .set es ep t) (hs : Heap.SameBut a h h') (k : xn0 h b) : xn0 h' b := by
 obtain ⟨o', items, n, h1, h2, h3, h4⟩ := k
 have ne : b ≠ a := by
  rintro rfl
  rw [ho] at h1
  cases h1
  rw [hd] at h3
  cases h3
 exact ⟨o', items, n, (hs.2 b ne).trans h1, h2, h3, h4⟩
theorem yh3 {a b : Addr} {xs ys : List (List K × Addr)} {each : Sem Unit} {Q : Unit -> Shared -> Prop} (hu : A.units < cLine) (ha : xd0 kn s.heap a xs) (hb : xd0 kn s.heap b ys) (hab : a ≠ b) (htx : ∀ y ∈ ys, xn0 s.heap y.2) (hl : xs.length + ys.length <= 36)
  (heach : ∀ (s' : Shared) (R : Unit -> Shared -> Prop), s'.heap.get? b = s.heap.get? b -> R () s' -> wpAny (model prog w) A each R E s')
  (h : ∀ h' d' zs, Heap.SameBut a s.heap h' -> xd0 kn h' a zs -> Both zs xs ys -> Q () { s with heap := h', drawn := d' }) :
  wpAny (model prog w) A (setMerge a b each) Q E s := by
 obtain ⟨oa, ea, pa, ta, hoa, hxa, hda, Sa, hpa⟩ := ha
 have hb0 := hb
 obtain ⟨ob, eb, pb, tb, hob, hxb, hdb, Sb, hpb⟩ := hb
 have same : s = { s with heap := s.heap, drawn := s.drawn } := by cases s; rfl
 unfold setMerge
 rw [if_neg (by simpa using hab)]
 refine wpAny_bind (wpAny_setState_of hob hdb Sb.fits ?_)
 dsimp only
 have hsz := Sb.size
 cases ys with
 | nil =>
  have : eb = #[] := Array.eq_empty_of_size_eq_zero (by simpa using hsz)
  subst this
  simp only [Array.isEmpty_empty, if_true]
  refine wpAny_pure ?_
  rw [same]
  exact h s.heap s.drawn xs (Heap.SameBut.refl _ _) ⟨oa, ea, pa, ta, hoa, hxa, hda, Sa, hpa⟩ ⟨fun z hz => .inl hz, fun k => by simp⟩
 | cons y0 yr =>
  generalize hys : y0 :: yr = ys at *
  have hyl : 0 < ys.length := by rw [<- hys]; simp
  have hne : eb.isEmpty = false := by
   rw [Bool.eq_false_iff]
   intro z
   have := Array.isEmpty_iff_size_eq_zero.mp z
   omega
  rw [hne]
  simp only [Bool.false_eq_true, if_false]; rw [hsz]
  refine wpAny_bind (yy3 hoa hxa hda Sa (m := ys.length) (by omega) fun h1 o1 e1 p1 t1 xs1 sb1 ho1 hx1 hd1 px S1 pl1 ld1 big => ?_)
  have hb1 : xd0 kn h1 b ys := keep_set hoa hda hb0 hab sb1
  have hob1 : h1.get? b = some ob := (sb1.2 b (Ne.symm hab)).trans hob
  have tx1 : ∀ y ∈ ys, xn0 h1 y.2 := fun y hy => yq5 hoa hda sb1 (htx y hy)
  have is1 : ∀ y ∈ ys, IsTupleKey kn h1 y.1 y.2 := fun y hy => xm9 hoa hda sb1 (Sb.is y hy)
  have SB1 : SetAt kn h1 ys eb tb := ⟨Sb.es, is1, Sb.nd, Sb.tab, Sb.cap⟩
  refine wpAny_bind (wpAny_setState_of (s := { s with heap := h1 }) ho1 hd1 S1.fits ?_)
  dsimp only
  have hlen := S1.tab.len
  rw [List.length_map] at hlen
  have hfill : t1.fill = xs1.length := by
   unfold SetTable.fill
   rw [S1.tab.dum]
   simp at hlen ⊢
   exact hlen
  have hpl1 : yg2 w xs1.length t1 := by unfold yg2; rw [px.length_eq, pl1, ld1]; exact hpa
  by_cases empty : xs1 = []
  ·-- a new one: laid over, or laid anew
   subst empty
   have hxs : xs = [] := px.symm.eq_nil
   subst hxs
   have hf0 : (t1.fill != 0) = false := by rw [hfill]; rfl
   have both : ∀ zs : List (List K × Addr), zs.Perm ys -> Both zs [] ys := fun zs hp => ⟨fun z hz => .inr (hp.mem_iff.mp hz), fun k => by
    rw [(hp.map (·.1)).mem_iff]; simp⟩
   unfold SetTable.road
   rw [hf0]
   simp only [Bool.false_eq_true, if_false]; by_cases c : (t1.mask == tb.mask && tb.dummies.isEmpty) = true
   ·rw [if_pos c]
    dsimp only
    refine wpAny_storeSet_of ho1 hd1 ?_ (by rw [hsz, sizeLine_eq]; omega)
    have sb2 := Heap.SameBut.update h1 a (Obj.putSet eb { tb with finger := t1.finger, led := t1.led && tb.led, moves := t1.moves, plain := t1.plain && tb.plain })
    have T2 : Tab { tb with finger := t1.finger, led := t1.led && tb.led, moves := t1.moves, plain := t1.plain && tb.plain } (ys.map fun x => tupleKeyHash kn x.1) :=
     ⟨Sb.tab.mask, Sb.tab.dum, Sb.tab.pw, Sb.tab.le, Sb.tab.len, Sb.tab.room, Sb.tab.way⟩
    refine h _ s.drawn ys (sb1.trans sb2) ⟨_, eb, _, _, stored ho1 hd1 _ _, hx1, rfl, ⟨Sb.es, fun x hx => xm9 ho1 hd1 sb2 (is1 x hx), Sb.nd, T2, Sb.cap⟩, ?_⟩ (both ys (.refl _))
    refine ⟨?_, by show (t1.led && tb.led) = _; rw [hpl1.2, hpb.2, Bool.and_self]⟩
    rcases hpb.1 with q | q
    ·exact .inl q
    ·exact .inr (by show (t1.plain && tb.plain) = false; rw [q, Bool.and_false])
   ·rw [if_neg c]
    dsimp only
    simp only [List.length_nil, Nat.zero_add] at big
    have hm7 : 7 <= t1.mask := by rcases S1.tab.mask with z | z | z | z | z <;> omega
    obtain ⟨t', order, e, e1', e2, e3, e4, e5, perm, tab⟩ := zb6 S1.tab.mask eb (by omega) t1.finger t1.moves (t1.led && tb.led) (t1.plain && tb.plain)
    rw [e]
    have hs' : (order.filterMap (fun k => eb[k]?)).size = eb.size := by rw [<- Array.length_toList, perm.length_eq, Array.length_toList]
    obtain ⟨ys', py, ey⟩ : ∃ ys' : List (List K × Addr), ys'.Perm ys /\ (order.filterMap (fun k => eb[k]?)).toList = ys'.map fun x => (tupleKeyHash kn x.1, Value.ref x.2) := by
     rw [Sb.es] at perm
     obtain ⟨l, q1, q2⟩ := xf3 perm
     exact ⟨l, q2, q1⟩
    refine wpAny_bind ?_
    refine wpAny_mono (Q := fun r s' => r = (order.filterMap (fun k => eb[k]?), t') /\ { s with heap := h1 } = s') ?_ ?_ (fun _ _ x => x)
    ·show wpAny _ _ (if ((order.filterMap (fun k => eb[k]?)).size != eb.size) = true then _ else _) _ _ _
     rw [if_neg (by rw [hs']; simp)]
     exact wpAny_pure ⟨rfl, rfl⟩
    ·rintro _ _ ⟨rfl, rfl⟩
     dsimp only
     refine wpAny_storeSet_of (s := { s with heap := h1 }) ho1 hd1 ?_ (by rw [hs', hsz, sizeLine_eq]; omega)
     have sb2 := Heap.SameBut.update h1 a (Obj.putSet (order.filterMap (fun k => eb[k]?)) t')
     refine h _ s.drawn ys' (sb1.trans sb2) ⟨_, _, _, _, stored ho1 hd1 _ _, hx1, rfl, ⟨ey, fun x hx => xm9 ho1 hd1 sb2 (is1 x (py.mem_iff.mp hx)), (py.map _).nodup_iff.mpr Sb.nd, ?_, ?_⟩, ?_⟩ (both ys' py)
     ·rw [ey, List.map_map] at tab
      exact tab
     ·rw [py.length_eq, e1']
      exact big
     ·rw [py.length_eq]
      refine ⟨?_, by rw [e2, hpl1.2, hpb.2, Bool.and_self]⟩
      rcases hpb.1 with q | q
      ·exact .inl q
      ·exact .inr (by rw [e3, q, Bool.and_false])
  ·-- one by one
   have hf0 : (t1.fill != 0) = true := by
    rw [hfill]
    have : 0 < xs1.length := List.length_pos_iff.mpr empty
    simp
    omega
   have er : t1.road tb = .oneByOne := by unfold SetTable.road; rw [if_pos hf0]
   rw [er]
   dsimp only
   refine wpAny_bind (yy1 (s := { s with heap := h1 }) hob1 hdb SB1 hpb fun es' d1 hp => ?_)
   rw [Sb.es] at hp
   obtain ⟨ys', ey, py⟩ := xf3 hp
   rw [<- Array.forIn_toList, ey]
   have ylen := py.length_eq
   refine wpAny_bind (wpAny_mono (wpAny_forIn_list _
    (fun rest _ s' => ∃ h' i zs, s' = { s with heap := h', drawn := d1 } /\ rest = (ys'.drop i).map (fun x => (tupleKeyHash kn x.1, Value.ref x.2)) /\ i <= ys'.length /\ Heap.SameBut a s.heap h' /\ xd0 kn h' a zs /\ Both zs xs (ys'.take i) /\ zs.length <= xs.length + i)
    (fun _ s' => ∃ h' zs, s' = { s with heap := h', drawn := d1 } /\ Heap.SameBut a s.heap h' /\ xd0 kn h' a zs /\ Both zs xs ys') ?_ ?_ _ _ ⟨h1, 0, xs1, rfl, rfl, Nat.zero_le _, sb1, ⟨o1, e1, p1, t1, ho1, hx1, hd1, S1, hpl1⟩, ⟨fun z hz => .inl (px.mem_iff.mp hz), fun k => by rw [(px.map (·.1)).mem_iff]; simp⟩, by rw [px.length_eq]; omega⟩) ?_ (fun _ _ x => x))
   ·rintro x rest b' s' ⟨h', i, zs, rfl, hr, hi, hs', hSz, bth, zl⟩
    have hlt : i < ys'.length := by
     rcases Nat.lt_or_ge i ys'.length with q | q
     ·exact q
     ·rw [List.drop_eq_nil_of_le q] at hr; simp at hr
    rw [List.drop_eq_getElem_cons hlt, List.map_cons] at hr
    obtain ⟨rfl, hrest⟩ := List.cons.inj hr
    dsimp only
    have hmem : ys'[i] ∈ ys := py.mem_iff.mp (List.getElem_mem hlt)
    have hk : IsTupleKey kn h' ys'[i].1 ys'[i].2 := xm9 hoa hda hs' (Sb.is _ hmem)
    have hv : xn0 h' ys'[i].2 := yq5 hoa hda hs' (htx _ hmem)
    refine wpAny_bind (wpAny_holding (yl7 (s := { s with heap := h', drawn := d1 }) hu hSz hk hv (by omega) fun r h'' zs' sb'' hSz' hin hnin => ?_))
    have hob2 : h''.get? b = some ob := (sb''.2 b (Ne.symm hab)).trans ((hs'.2 b (Ne.symm hab)).trans hob)
    refine wpAny_bind (heach _ _ (by show h''.get? b = _; rw [hob2, hob]) ?_)
    refine wpAny_bind (wpAny_setState_of (s := { s with heap := h'', drawn := d1 }) hob2 hdb Sb.fits ?_)
    dsimp only
    rw [if_neg (by simp)]
    refine wpAny_pure ⟨h'', i + 1, zs', rfl, hrest, hlt, hs'.trans sb'', hSz', ?_, ?_⟩
    ·rw [List.take_succ, List.getElem?_eq_getElem hlt, Option.toList_some]
     by_cases c : ys'[i].1 ∈ zs.map (·.1)
     ·rw [hin c]
      refine ⟨fun z hz => ?_, fun k => ?_⟩
      ·rcases bth.from_ z hz with q | q
       ·exact .inl q
       ·exact .inr (List.mem_append_left _ q)
      ·rw [bth.keys k, List.map_append, List.mem_append, List.map_cons, List.map_nil, List.mem_singleton]
       constructor
       ·rintro (q | q)
        ·exact .inl q
        ·exact .inr (.inl q)
       ·rintro (q | q | q)
        ·exact .inl q
        ·exact .inr q
        ·subst q; exact (bth.keys _).mp c
     ·have pz := hnin c
      refine ⟨fun z hz => ?_, fun k => ?_⟩
      ·rcases List.mem_cons.mp (pz.mem_iff.mp hz) with q | q
       ·exact .inr (List.mem_append_right _ (by rw [q]; simp))
       ·rcases bth.from_ z q with q | q
        ·exact .inl q
        ·exact .inr (List.mem_append_left _ q)
      ·rw [(pz.map (·.1)).mem_iff, List.map_cons, List.mem_cons, bth.keys k, List.map_append, List.mem_append, List.map_cons, List.map_nil, List.mem_singleton]
       constructor
       ·rintro (q | q | q)
        ·exact .inr (.inr q)
        ·exact .inl q
        ·exact .inr (.inl q)
       ·rintro (q | q | q)
        ·exact .inr (.inl q)
        ·exact .inr (.inr q)
        ·exact .inl q
    ·by_cases c : ys'[i].1 ∈ zs.map (·.1)
     ·rw [hin c]; omega
     ·rw [(hnin c).length_eq, List.length_cons]; omega
   ·rintro b' s' ⟨h', i, zs, rfl, hr, hi, hs', hSz, bth, zl⟩
    have hin : i = ys'.length := by
     rcases Nat.lt_or_ge i ys'.length with q | q
     ·rw [List.drop_eq_getElem_cons q, List.map_cons] at hr; cases hr
     ·omega
    subst hin
    rw [List.take_length] at bth
    exact ⟨h', zs, rfl, hs', hSz, bth⟩
   ·rintro _ s' ⟨h', zs, rfl, hs', hSz, bth⟩
    refine wpAny_pure ?_
    exact h h' d1 zs hs' hSz ⟨fun z hz => (bth.from_ z hz).imp id fun q => py.mem_iff.mp q, fun k => by rw [bth.keys k, (py.map (·.1)).mem_iff]⟩
end
theorem yk1 : entryFor table "set.__or__" = some Builtin.«frozenset.__or__» :=
 entryFor_alias (id' := "frozenset.__or__") (by kernel_rfl) rfl (by decide +kernel) (by kernel_rfl)
theorem xu6 {α : Type} [DecidableEq α] : ∀ {l m : List α}, l.Nodup -> (∀ x ∈ l, x ∈ m) -> l.length <= m.length
 | [], m, _, _ => Nat.zero_le _
 | x :: l, m, hn, hs => by
  rw [List.nodup_cons] at hn
  have hx := hs x (by simp)
  have := xu6 (l := l) (m := m.erase x) hn.2 fun y hy => (List.mem_erase_of_ne (fun e => hn.1 (by rw [<- e]; exact hy))).mpr (hs y (by simp [hy]))
  rw [List.length_erase_of_mem hx] at this
  have := List.length_pos_of_mem hx
  simp only [List.length_cons]
  omega
section
variable {prog : Program} {w : World} {K : Type} [DecidableEq K] {kn : KeyKind prog w K} {A : Around} {E : Value -> Shared -> Prop} {s : Shared}
theorem xd0.typeIs {a : Addr} {xs : List (List K × Addr)} (h : xd0 kn s.heap a xs) : s.TypeIs (.ref a) "set" := let ⟨o, _, _, _, ho, hx, _⟩ := h; ⟨o, ho, hx.1⟩
theorem isSet {a : Addr} {Q : Bool -> Shared -> Prop} (hT : s.TypeIs (.ref a) "set") (h : Q true s) : wpAny (model prog w) A (Builtin.Frozenset.isAnySet (.ref a)) Q E s := by
 unfold Builtin.Frozenset.isAnySet
 have h1 := sub_set_self
 wp_walk
 exact h
theorem yq8 {h h' : Heap} {a : Addr} {xs : List (List K × Addr)} (k : ∀ b o, h.get? b = some o -> h'.get? b = some o) (hs : xd0 kn h a xs) : xd0 kn h' a xs := by
 obtain ⟨o, es, ep, t, h1, h2, h3, S, h5⟩ := hs
 refine ⟨o, es, ep, t, k _ _ h1, h2, h3, ⟨S.es, fun x hx => ?_, S.nd, S.tab, S.cap⟩, h5⟩
 obtain ⟨o', it, n, a1, a2⟩ := S.is x hx
 exact ⟨o', it, n, k _ _ a1, a2⟩
theorem yq7 {h h' : Heap} {a : Addr} (k : ∀ b o, h.get? b = some o -> h'.get? b = some o) (hs : xn0 h a) : xn0 h' a := by
 obtain ⟨o', it, n, a1, a2⟩ := hs
 exact ⟨o', it, n, k _ _ a1, a2⟩
theorem yj8 {h : Heap} {a : Addr} {led : Bool} (hled : led = !(w.params.followText "set-order")) (e : h.get? a = some (xb5 led)) : xd0 kn h a [] :=
 ⟨_, _, _, _, e, ⟨rfl, rfl, rfl⟩, rfl, ⟨rfl, fun x hx => by simp at hx, List.nodup_nil, Tab.fresh 0 0 led, by show 0 * 5 < 7 * 3; decide⟩, Or.inl (Nat.zero_le 1), hled⟩
theorem new_set {Q : Value -> Shared -> Prop} (h : ∀ led : Bool, led = (!(w.params.followText "set-order")) -> Q (.ref s.heap.objs.size) { s with heap := s.heap.push (xb5 led) }) : wpAny (model prog w) A (newSet (.type "set")) Q E s := by
 unfold newSet setsByText
 refine wpAny_bind (wpAny_bind (wpAny_askSetting (wpAny_pure ?_))); dsimp only
 simp only [newObj]
 exact wpAny_bind (wpAny_alloc (wpAny_pure (h _ rfl)))
theorem xs6 {h h' h0 : Heap} {a : Addr} (k : ∀ b o, h0.get? b = some o -> h.get? b = some o) (hn : h0.get? a = none) (sb : Heap.SameBut a h h') : ∀ b o, h0.get? b = some o -> h'.get? b = some o := fun b o e => by
 have ne : b ≠ a := by rintro rfl; rw [hn] at e; cases e
 exact (sb.2 b ne).trans (k b o e)
theorem xj6 (h : Heap) : h.get? h.objs.size = none := by
 cases e : h.get? h.objs.size with
 | none => rfl
 | some o => exact (Nat.lt_irrefl _ (Heap.lt_size e)).elim
theorem set_copy {l : Addr} {xs : List (List K × Addr)} {Q : Value -> Shared -> Prop} (hu : A.units < cLine) (hl : xd0 kn s.heap l xs) (htx : ∀ y ∈ xs, xn0 s.heap y.2) (hn : xs.length <= 36)
  (h : ∀ h' d' zs, (∀ b o, s.heap.get? b = some o -> h'.get? b = some o) -> xd0 kn h' s.heap.objs.size zs -> Both zs [] xs -> Q (.ref s.heap.objs.size) { s with heap := h', drawn := d' }) :
  wpAny (model prog w) A (Builtin.Frozenset.copyOf l) Q E s := by
 have hT := hl.typeIs
 unfold Builtin.Frozenset.copyOf Builtin.Frozenset.baseOf
 refine wpAny_bind (wpAny_bind (wpAny_isInstance hT sub_set_self ?_))
 simp only [if_true]
 refine wpAny_pure ?_
 refine wpAny_bind (new_set fun led hled => ?_)
 have k0 : ∀ b o, s.heap.get? b = some o -> (s.heap.push (xb5 led)).get? b = some o := fun b o e => Heap.get?_push_of_some _ e
 have hS : (s.heap.push (xb5 led)).get? s.heap.objs.size = some (xb5 led) := Heap.get?_push_size _ rfl
 show wpAny _ _ (pure s.heap.objs.size >>= _) _ _ _
 refine wpAny_bind (wpAny_pure ?_); have hll : l < s.heap.objs.size := by obtain ⟨o, _, _, _, ho, _⟩ := hl; exact Heap.lt_size ho
 refine wpAny_bind (yh3 (s := { s with heap := s.heap.push (xb5 led) }) (xs := []) hu (yj8 hled hS) (yq8 k0 hl) (Nat.ne_of_gt hll) (fun y hy => yq7 k0 (htx y hy)) (by simpa using hn) (fun s' R _ hR => wpAny_pure hR) fun h' d' zs sb hz bth => wpAny_pure ?_)
 exact h h' d' zs (xs6 k0 (xj6 _) sb) hz bth
theorem ys6 {a r : Addr} {xs ys : List (List K × Addr)} {id : String} {Q : Unit -> Shared -> Prop} (hu : A.units < cLine) (ha : xd0 kn s.heap a xs) (hr : xd0 kn s.heap r ys) (har : a ≠ r) (hty : ∀ y ∈ ys, xn0 s.heap y.2) (hn : xs.length + ys.length <= 36)
  (h : ∀ h' d' zs, Heap.SameBut a s.heap h' -> xd0 kn h' a zs -> Both zs xs ys -> Q () { s with heap := h', drawn := d' }) :
  wpAny (model prog w) A (Builtin.Frozenset.updateFrom id a (.ref r)) Q E s := by
 unfold Builtin.Frozenset.updateFrom
 refine wpAny_bind (isSet hr.typeIs ?_)
 simp only [if_true]
 show wpAny _ _ (pure r >>= _) _ _ _
 refine wpAny_bind (wpAny_pure ?_); unfold Builtin.Frozenset.merge
 have hr2 := hr
 obtain ⟨o, es, ep, t, ho, hx, hd, S, hp⟩ := hr2
 refine wpAny_bind (wpAny_setEpoch_of ho hd S.fits ?_)
 refine yh3 hu ha hr har hty hn (fun s' R e hR => ?_) h
 unfold Builtin.Frozenset.unchanged
 refine wpAny_bind (wpAny_setEpoch_of (e.trans ho) hd S.fits ?_)
 rw [if_neg (by simp)]
 exact wpAny_pure hR
theorem yy2 {l r : Addr} {xs ys : List (List K × Addr)} {Q : Value -> Shared -> Prop} (hu : A.units + 8 < cLine) (hl : xd0 kn s.heap l xs) (hr : xd0 kn s.heap r ys) (hlr : l ≠ r) (htx : ∀ y ∈ xs, xn0 s.heap y.2) (hty : ∀ y ∈ ys, xn0 s.heap y.2) (hn : xs.length + ys.length <= 36)
  (h : ∀ h' d' zs, (∀ b o, s.heap.get? b = some o -> h'.get? b = some o) -> xd0 kn h' s.heap.objs.size zs -> Both zs xs ys -> Q (.ref s.heap.objs.size) { s with heap := h', drawn := d' }) :
  wpAny (model prog w) A (binaryOp .BitOr (.ref l) (.ref r)) Q E s := by
 have hTl := hl.typeIs
 have hTr := hr.typeIs
 refine wpAny_binaryOp_same (T := "set") (op := .BitOr) hTl hTr PySem.F.fills_set_or PySem.F.slot_set_or (wpAny_call_entry PySem.F.slot_set_or hTl yk1 ?_ (PySem.F.args_set_or_2 _ _))
 show wpAny _ _ (Builtin.Frozenset.slot1 "__or__" ⟨[.ref l, .ref r], []⟩ >>= _) _ _ _
 unfold Builtin.Frozenset.slot1 slotArgs
 simp only [List.isEmpty_nil, Bool.not_true, Bool.false_eq_true, ↓reduceIte, bind_assoc, List.length_cons, List.length_nil, Nat.zero_add, bne_self_eq_false]
 refine wpAny_bind (wpAny_pure ?_); dsimp only
 refine wpAny_bind (wpAny_pure ?_); dsimp only
 refine wpAny_bind ?_
 unfold andM
 refine wpAny_bind (isSet hTl ?_)
 show wpAny _ _ (Builtin.Frozenset.isAnySet (.ref r)) _ _ _
 refine isSet hTr ?_
 simp only [Bool.not_true, Bool.false_eq_true, if_false]; show wpAny _ _ (pure l >>= _) _ _ _
 refine wpAny_bind (wpAny_pure ?_); refine wpAny_bind ?_
 show wpAny _ _ (Builtin.Frozenset.copyOf l >>= _) _ _ _
 have hu1 : A.in1.units < cLine := by rw [Around.in1_units]; omega
 refine wpAny_bind (set_copy hu1 hl htx (by omega) fun h1 d1 zs k1 hz bz => ?_)
 have hr1 := yq8 k1 hr
 have hrl : r < s.heap.objs.size := by obtain ⟨o, _, _, _, ho, _⟩ := hr; exact Heap.lt_size ho
 have zl : zs.length <= xs.length := by
  have := hz
  obtain ⟨_, _, _, _, _, _, _, Sz, _⟩ := hz
  have nd := Sz.nd
  have : (zs.map (·.1)).length <= (xs.map (·.1)).length := xu6 nd fun k hk => by simpa using (bz.keys k).mp hk
  simpa using this
 rw [if_pos (by
  have : r ≠ l := Ne.symm hlr
  simpa using this)]
 show wpAny _ _ (pure s.heap.objs.size >>= _) _ _ _
 refine wpAny_bind (wpAny_pure ?_); refine wpAny_bind (wpAny_holding (ys6 (s := { s with heap := h1, drawn := d1 }) hu1 hz hr1 (Nat.ne_of_gt hrl) (fun y hy => yq7 k1 (hty y hy)) (by omega) fun h2 d2 ws sb hw bw => wpAny_pure ?_))
 refine wpAny_pure ⟨_, rfl, (by intro z; cases z), h h2 d2 ws (xs6 k1 (xj6 _) sb) hw ⟨fun z hz' => ?_, fun k => ?_⟩⟩
 ·rcases bw.from_ z hz' with q | q
  ·rcases bz.from_ z q with q | q
   ·simp at q
   ·exact .inl q
  ·exact .inr q
 ·rw [bw.keys k, bz.keys k]
  simp
end
theorem xc4 : Slot "set_iterator" "__next__" "set_iterator.__next__" :=
 .of (owner := "set_iterator") (n := "__next__") (by rw [typeLookup_type, builtinLookup_eq_fast]; kernel_rfl) (by decide +kernel) (by decide +kernel) (by decide +kernel) (by first | exact .inl (by decide +kernel) | exact .inr (by decide +kernel)) (by rw [isSubtype_type]; kernel_rfl)
theorem xh8 : entryFor table "set_iterator.__next__" = some Builtin.«set_iterator.__next__» := entryFor_of_tree (by kernel_rfl)
theorem xi4 (a : Value) : argsOk "set_iterator.__next__" ⟨[a], []⟩ := by
 unfold argsOk
 first | kernel_rfl | decide +kernel | (simp only []; kernel_rfl)
theorem xq4 : Slot "set_iterator" "__iter__" "set_iterator.__iter__" :=
 .of (owner := "set_iterator") (n := "__iter__") (by rw [typeLookup_type, builtinLookup_eq_fast]; kernel_rfl) (by decide +kernel) (by decide +kernel) (by decide +kernel) (by first | exact .inl (by decide +kernel) | exact .inr (by decide +kernel)) (by rw [isSubtype_type]; kernel_rfl)
theorem ya2 : entryFor table "set_iterator.__iter__" = some Builtin.«dict_keyiterator.__iter__» := entryFor_alias (id' := "dict_keyiterator.__iter__") (by kernel_rfl) rfl (by decide +kernel) (by kernel_rfl)
theorem yf8 (a : Value) : argsOk "set_iterator.__iter__" ⟨[a], []⟩ := by
 unfold argsOk
 first | kernel_rfl | decide +kernel | (simp only []; kernel_rfl)
abbrev xr5 (first : Value) (i : Nat) (S : Addr) (n ep : Nat) : Obj := { cls := .type "set_iterator", data := .fields #[first, .int i 0, .ref S, .int n 0, .int ep 0] }
section
variable {w : World} {prog : Program} {A : Around} {E : Value -> Shared -> Prop} {s : Shared}
theorem zc4 {h : Heap} {first : Value} {I S : Addr} {i n ep : Nat} (hI : h.get? I = some (xr5 first i S n ep)) : (h.update I (Obj.mapFields fun x => x.setIfInBounds 1 (rawInt (↑i + 1)))).get? I = some (xr5 first (i + 1) S n ep) := by
 refine (Heap.get?_update_self _ hI (Obj.isFreed_of_fields (Obj.data_mapFields rfl _))).trans ?_
 simp [Obj.mapFields, rawInt]
theorem yu4 {I S T : Addr} {o oT : Obj} {es : Array (Int × Value)} {ep i n place : Nat} {t : SetTable} {items : Array Value} {nn : Nat} {x : Value} {hx : Int} {Q : Option Value -> Shared -> Prop} (hI : s.heap.get? I = some (xr5 (.ref T) i S n ep)) (hS : s.heap.get? S = some o) (hd : o.data = .set es ep t) (hf : t.fits es.size = true) (hn : es.size = n)
  (hT : s.heap.get? T = some oT) (hTd : oT.data = .seq items nn) (hit : items[i]? = some (.int place 0)) (hp : es[place]? = some (hx, x))
  (h : ∀ h', h'.get? I = some (xr5 (.ref T) (i + 1) S n ep) -> Heap.SameBut I s.heap h' -> Q (some x) { s with heap := h' }) : wpAny (model prog w) A (pyNext (.ref I)) Q E s := by
 have hTy : s.TypeIs (.ref I) "set_iterator" := ⟨_, hI, rfl⟩
 unfold pyNext
 refine wpAny_bind (wpAny_attempt (wpAny_callSpecial?_slot (name := Str.ofString "__next__") hTy xc4 (wpAny_call_entry xc4 hTy xh8 ?_ (xi4 _))))
 unfold Builtin.«set_iterator.__next__» slotArgs
 simp only [List.isEmpty_nil, Bool.not_true, Bool.false_eq_true, ↓reduceIte, bind_assoc, List.length_nil, bne_self_eq_false]; refine wpAny_bind (wpAny_pure ?_)
 dsimp only
 refine wpAny_bind (wpAny_fieldsOf hI rfl ?_)
 dsimp only
 refine wpAny_bind (wpAny_setEntries_of hS hd hf ?_)
 rw [if_neg (by rw [hn]; simp)]
 refine wpAny_bind (wpAny_seqItems hT hTd ?_)
 simp only [Int.toNat_natCast, hit]
 unfold setNextDrawn
 refine wpAny_bind (wpAny_bind (wpAny_setState_of hS hd hf ?_))
 dsimp only
 rw [if_neg (by simp), hp]
 dsimp only
 refine wpAny_pure ?_
 refine wpAny_bind (wpAny_setField hI rfl (by simp) (wpAny_pure ⟨x, rfl, wpAny_pure (h _ ?_ (Heap.SameBut.update ..))⟩))
 exact zc4 hI
theorem ya7 {I S : Addr} {o : Obj} {es : Array (Int × Value)} {ep i n : Nat} {t : SetTable} {slot : Int} {x : Value} {next : Nat} {tk : Tok} {Q : Option Value -> Shared -> Prop} (hI : s.heap.get? I = some (xr5 (.int slot tk) i S n ep)) (hS : s.heap.get? S = some o) (hd : o.data = .set es ep t) (hf : t.fits es.size = true) (hn : es.size = n)
  (hnext : ∀ (R : Option (Value × Nat) -> Shared -> Prop) (E' : Value -> Shared -> Prop), R (some (x, next)) s -> wpAny (model prog w) A.in1 (setNext S slot.toNat i ep) R E' s)
  (h : ∀ h', h'.get? I = some (xr5 (.int next 0) (i + 1) S n ep) -> Heap.SameBut I s.heap h' -> Q (some x) { s with heap := h' }) : wpAny (model prog w) A (pyNext (.ref I)) Q E s := by
 have hTy : s.TypeIs (.ref I) "set_iterator" := ⟨_, hI, rfl⟩
 unfold pyNext
 refine wpAny_bind (wpAny_attempt (wpAny_callSpecial?_slot (name := Str.ofString "__next__") hTy xc4 (wpAny_call_entry xc4 hTy xh8 ?_ (xi4 _))))
 unfold Builtin.«set_iterator.__next__» slotArgs
 simp only [List.isEmpty_nil, Bool.not_true, Bool.false_eq_true, ↓reduceIte, bind_assoc, List.length_nil, bne_self_eq_false]; refine wpAny_bind (wpAny_pure ?_)
 dsimp only
 refine wpAny_bind (wpAny_fieldsOf hI rfl ?_)
 dsimp only
 refine wpAny_bind (wpAny_setEntries_of hS hd hf ?_)
 rw [if_neg (by rw [hn]; simp)]
 simp only [Int.toNat_natCast]
 refine wpAny_bind (hnext _ _ ?_)
 dsimp only
 refine wpAny_bind (wpAny_setField hI rfl (by simp) ?_)
 have hI1 : (s.heap.update I (Obj.mapFields fun x => x.setIfInBounds 0 (rawInt ↑next))).get? I = some (xr5 (.int next 0) i S n ep) := by
  refine (Heap.get?_update_self _ hI (Obj.isFreed_of_fields (Obj.data_mapFields rfl _))).trans ?_
  simp [Obj.mapFields, rawInt]
 have sb1 := Heap.SameBut.update s.heap I (Obj.mapFields fun x => x.setIfInBounds 0 (rawInt ↑next))
 generalize s.heap.update I (Obj.mapFields fun x => x.setIfInBounds 0 (rawInt ↑next)) = h1 at hI1 sb1 ⊢
 exact wpAny_bind (wpAny_setField (s := { s with heap := h1 }) hI1 rfl (by simp) (wpAny_pure ⟨x, rfl, wpAny_pure (h _ (zc4 hI1) (sb1.trans (Heap.SameBut.update ..)))⟩))
theorem zc3 {I S : Addr} {first : Value} {i n ep : Nat} {R : PySem.Fin -> Shared -> Prop} {Q : Option Value -> Shared -> Prop} (hh : A.handled = none) (hI : s.heap.get? I = some (xr5 first i S n ep)) (h : ∀ h', Heap.ExtBut I s.heap h' -> Q none { s with heap := h' }) :
  wpAny (model prog w) A.in1 (do
    setField (Value.ref I) 2 Value.none
    let e <- newExc (Value.type "StopIteration") []
    raiseNew e) R (fun e s' => wpAny (model prog w) A (do
     let b <- isInstance e (Value.type "StopIteration")
     if b = true then pure none else throw e) Q E s') s := by
 refine wpAny_bind (wpAny_setField hI rfl (by simp) ?_)
 refine wpAny_bind ?_
 simp only [newTuple, newExc]
 refine wpAny_bind (wpAny_newObj_type ?_ (by size_fits)); have none1 : firstArgMember (.type "StopIteration") [] = pure Value.none := by first | rfl | (simp only [firstArgMember]; rfl)
 refine wpAny_bind (wpAny_of_eq none1 ?_)
 refine wpAny_newObj_type ?_ (by size_fits); simp only [raiseNew]
 refine wpAny_bind (wpAny_handled ?_); rw [show A.in1.handled = none from hh]
 refine wpAny_bind (wpAny_pure (wpAny_throw ?_)); have isStop := isSubtype_stop
 refine wpAny_bind (wpAny_isInstance ⟨_, Heap.get?_push_size _ rfl, rfl⟩ isStop ?_)
 exact wpAny_pure (h _ (((Heap.SameBut.update ..).extBut.push _).push _))
theorem zd9 {I S T : Addr} {o oT : Obj} {es : Array (Int × Value)} {ep i n : Nat} {t : SetTable} {items : Array Value} {nn : Nat} {Q : Option Value -> Shared -> Prop} (hh : A.handled = none) (hI : s.heap.get? I = some (xr5 (.ref T) i S n ep)) (hS : s.heap.get? S = some o) (hd : o.data = .set es ep t) (hf : t.fits es.size = true) (hn : es.size = n)
  (hT : s.heap.get? T = some oT) (hTd : oT.data = .seq items nn) (hit : items[i]? = none)
  (h : ∀ h', Heap.ExtBut I s.heap h' -> Q none { s with heap := h' }) : wpAny (model prog w) A (pyNext (.ref I)) Q E s := by
 have hTy : s.TypeIs (.ref I) "set_iterator" := ⟨_, hI, rfl⟩
 unfold pyNext
 refine wpAny_bind (wpAny_attempt (wpAny_callSpecial?_slot (name := Str.ofString "__next__") hTy xc4 (wpAny_call_entry xc4 hTy xh8 ?_ (xi4 _))))
 unfold Builtin.«set_iterator.__next__» slotArgs
 simp only [List.isEmpty_nil, Bool.not_true, Bool.false_eq_true, ↓reduceIte, bind_assoc, List.length_nil, bne_self_eq_false]; refine wpAny_bind (wpAny_pure ?_)
 dsimp only
 refine wpAny_bind (wpAny_fieldsOf hI rfl ?_)
 dsimp only
 refine wpAny_bind (wpAny_setEntries_of hS hd hf ?_)
 rw [if_neg (by rw [hn]; simp)]
 refine wpAny_bind (wpAny_seqItems hT hTd ?_)
 simp only [Int.toNat_natCast, hit]
 refine wpAny_bind (wpAny_setField hI rfl (by simp) ?_)
 have hI1 : (s.heap.update I (Obj.mapFields fun x => x.setIfInBounds 0 (rawInt 0))).get? I = some (xr5 (.int 0 0) i S n ep) := by
  refine (Heap.get?_update_self _ hI (Obj.isFreed_of_fields (Obj.data_mapFields rfl _))).trans ?_
  simp [Obj.mapFields, rawInt]
 have sb1 := Heap.SameBut.update s.heap I (Obj.mapFields fun x => x.setIfInBounds 0 (rawInt 0))
 generalize s.heap.update I (Obj.mapFields fun x => x.setIfInBounds 0 (rawInt 0)) = h1 at hI1 sb1 ⊢
 exact zc3 (s := { s with heap := h1 }) hh hI1 fun h' e => h h' (sb1.extBut.trans e)
theorem yk2 {I S : Addr} {o : Obj} {es : Array (Int × Value)} {ep i n : Nat} {t : SetTable} {slot : Int} {tk : Tok} {Q : Option Value -> Shared -> Prop} (hh : A.handled = none) (hI : s.heap.get? I = some (xr5 (.int slot tk) i S n ep)) (hS : s.heap.get? S = some o) (hd : o.data = .set es ep t) (hf : t.fits es.size = true) (hn : es.size = n)
  (hnext : ∀ (R : Option (Value × Nat) -> Shared -> Prop) (E' : Value -> Shared -> Prop), R none s -> wpAny (model prog w) A.in1 (setNext S slot.toNat i ep) R E' s)
  (h : ∀ h', Heap.ExtBut I s.heap h' -> Q none { s with heap := h' }) : wpAny (model prog w) A (pyNext (.ref I)) Q E s := by
 have hTy : s.TypeIs (.ref I) "set_iterator" := ⟨_, hI, rfl⟩
 unfold pyNext
 refine wpAny_bind (wpAny_attempt (wpAny_callSpecial?_slot (name := Str.ofString "__next__") hTy xc4 (wpAny_call_entry xc4 hTy xh8 ?_ (xi4 _))))
 unfold Builtin.«set_iterator.__next__» slotArgs
 simp only [List.isEmpty_nil, Bool.not_true, Bool.false_eq_true, ↓reduceIte, bind_assoc, List.length_nil, bne_self_eq_false]; refine wpAny_bind (wpAny_pure ?_)
 dsimp only
 refine wpAny_bind (wpAny_fieldsOf hI rfl ?_)
 dsimp only
 refine wpAny_bind (wpAny_setEntries_of hS hd hf ?_)
 rw [if_neg (by rw [hn]; simp)]
 simp only [Int.toNat_natCast]
 refine wpAny_bind (hnext _ _ ?_)
 dsimp only
 exact zc3 hh hI h
def Way3 (w : World) (S T : Addr) (es : Array (Int × Value)) (ep : Nat) (t : SetTable) (vs : List Value) (i : Nat) (first : Value) (h : Heap) : Prop :=
 (∃ (oT : Obj) (items : Array Value) (nn : Nat), first = .ref T /\ h.get? T = some oT /\ oT.data = .seq items nn /\ items.size = vs.length /\ ∀ (j : Nat) (x : Value), vs[j]? = some x -> ∃ (place : Nat) (hx : Int), items[j]? = some (Value.int (place : Int) 0) /\ es[place]? = some (hx, x)) \/
 (w.params.followText "set-order" = true /\ (∃ (k : Nat), first = .int k 0) /\ vs = (pickOrder (w.params.setOrder S ep) es).toList.map (·.2)) \/
 (w.params.followText "set-order" = false /\ t.led = true /\ es.size <= 1 /\ vs = es.toList.map (·.2) /\ ∃ (k : Nat), first = .int k 0 /\ (i = 0 -> k = 0) /\ ∀ j, t.place.toList[0]? = some j -> 0 < i -> j < k)
structure ItSt (w : World) (I S T : Addr) (o : Obj) (es : Array (Int × Value)) (ep : Nat) (t : SetTable) (vs : List Value) (i : Nat) (h : Heap) : Prop where
 at_ : ∃ first, h.get? I = some (xr5 first i S es.size ep) /\ Way3 w S T es ep t vs i first h
 set : h.get? S = some o
theorem ya6 {S : Addr} {o : Obj} {es : Array (Int × Value)} {ep : Nat} {t : SetTable} {k i : Nat} {R : Option (Value × Nat) -> Shared -> Prop} (hS : s.heap.get? S = some o) (hd : o.data = .set es ep t) (hf : t.fits es.size = true) (hb : w.params.followText "set-order" = false) (hled : t.led = true) (h1 : es.size <= 1)
  (h : R (match es[SetTable.below t.place k]?, t.place[SetTable.below t.place k]? with | some (_, x), some j => some (x, j + 1) | _, _ => none) s) : wpAny (model prog w) A (setNext S k i ep) R E s := by
 unfold setNext setsByText
 refine wpAny_bind (wpAny_setState_of hS hd hf ?_)
 dsimp only
 refine wpAny_bind (wpAny_bind (wpAny_askSetting (wpAny_pure ?_))); rw [if_neg (by show ¬ w.params.followText "set-order" = true; rw [hb]; decide)]
 show wpAny _ _ (if (!t.plain && decide (es.size > 1)) = true then _ else _) _ _ _
 rw [if_neg (by simp; omega)]
 show wpAny _ _ ((if (!t.led && !es.isEmpty) = true then (unsupported "set:maker-not-led" : Sem Unit) else pure ()) >>= _) _ _ _
 rw [if_neg (by rw [hled]; simp)]
 refine wpAny_bind (wpAny_pure ?_); exact wpAny_pure h
theorem yh0 {S : Addr} {o : Obj} {es : Array (Int × Value)} {ep : Nat} {t : SetTable} {k i : Nat} {R : Option (Value × Nat) -> Shared -> Prop} (hS : s.heap.get? S = some o) (hd : o.data = .set es ep t) (hf : t.fits es.size = true) (hb : w.params.followText "set-order" = true)
  (h : R (((pickOrder (w.params.setOrder S ep) es)[i]?).map fun e => (e.2, k)) s) : wpAny (model prog w) A (setNext S k i ep) R E s := by
 unfold setNext setsByText
 refine wpAny_bind (wpAny_setState_of hS hd hf ?_)
 dsimp only
 refine wpAny_bind (wpAny_bind (wpAny_askSetting (wpAny_pure ?_))); rw [if_pos (by exact hb), if_neg (by simp)]
 unfold setWalk setsByText
 refine wpAny_bind (wpAny_bind (wpAny_setState_of hS hd hf ?_))
 dsimp only
 refine wpAny_bind (wpAny_bind (wpAny_askSetting (wpAny_pure ?_))); rw [if_pos (by exact hb)]
 refine wpAny_bind (wpAny_askSetting (wpAny_pure ?_))
 exact wpAny_pure h
theorem walk_set {I S T : Addr} {o : Obj} {es : Array (Int × Value)} {ep : Nat} {t : SetTable} {vs : List Value} {fp : List Addr} (hh : A.handled = none) (hd : o.data = .set es ep t) (hf : t.fits es.size = true) (hvl : vs.length = es.size) (hIS : S ≠ I) (hpw : es.size <= 1 -> t.place.toList.Pairwise (· < ·)) (hIf : I ∈ fp) (hSf : S ∈ fp) (hTf : T ∈ fp) (hTI : T ≠ I) :
  WalksS prog w A I fp [I] (fun a b => b = a) vs.length (fun i v => vs[i]? = some v) (fun i s => ItSt w I S T o es ep t vs i s.heap) where
 sub := fun b hb => by rw [List.mem_singleton.mp hb]; exact hIf
 grefl := fun _ => rfl; gtrans := fun _ _ _ h1 h2 => h2.trans h1
 frame := fun i s h' tk st _ hk => by
  obtain ⟨⟨first, h1, h2⟩, h3⟩ := st
  refine ⟨⟨first, hk I hIf _ h1, ?_⟩, hk S hSf _ h3⟩
  rcases h2 with ⟨oT, items, nn, rfl, e1, e2⟩ | q | q
  ·exact .inl ⟨oT, items, nn, rfl, hk T hTf _ e1, e2⟩
  ·exact .inr (.inl q)
  ·exact .inr (.inr q)
 item := fun i s Q E hi st (hQ) => by
  obtain ⟨⟨first, hI, hw⟩, hS⟩ := st
  have hv : vs[i]? = some vs[i] := List.getElem?_eq_getElem hi
  have mv : ∀ h', Heap.SameBut I s.heap h' -> Moved [I] (fun a b => b = a) s { s with heap := h' } := fun h' sb => ⟨fun b ob hb e => (sb.2 b (fun z => hb (by simp [z]))).trans e, rfl, rfl, rfl, Nat.le_refl _⟩
  rcases hw with ⟨oT, items, nn, rfl, e1, e2, e3, e4⟩ | ⟨hb, ⟨k, rfl⟩, rfl⟩ | ⟨hb, hled, h1, rfl, k, rfl, hk0, hk1⟩
  ·obtain ⟨place, hx, p1, p2⟩ := e4 i _ hv
   refine yu4 hI hS hd hf rfl e1 e2 p1 p2 fun h' hI' sb => hQ _ _ hv ⟨⟨_, hI', .inl ⟨oT, items, nn, rfl, (sb.2 T hTI).trans e1, e2, e3, e4⟩⟩, (sb.2 S hIS).trans hS⟩ (mv h' sb)
  ·have hv2 : (pickOrder (w.params.setOrder S ep) es)[i]?.map (fun e => (e.2, k)) = some (((pickOrder (w.params.setOrder S ep) es).toList.map (·.2))[i], k) := by
    rw [List.getElem?_map, Array.getElem?_toList] at hv
    cases q : (pickOrder (w.params.setOrder S ep) es)[i]? with
    | none => rw [q] at hv; cases hv
    | some e => rw [q] at hv; simp at hv; simp [hv]
   refine ya7 hI hS hd hf rfl (x := ((pickOrder (w.params.setOrder S ep) es).toList.map (·.2))[i]) (next := k) (fun R E' r => yh0 hS hd hf hb (by rw [Int.toNat_natCast, hv2]; exact r)) fun h' hI' sb => hQ _ _ hv ⟨⟨_, hI', .inr (.inl ⟨hb, ⟨k, rfl⟩, rfl⟩)⟩, (sb.2 S hIS).trans hS⟩ (mv h' sb)
  ·simp only [List.length_map, Array.length_toList] at hi
   have i0 : i = 0 := by omega
   subst i0
   have k0 := hk0 rfl
   subst k0
   have hfit := hf
   unfold SetTable.fits at hfit
   simp only [Bool.and_eq_true, beq_iff_eq, decide_eq_true_eq] at hfit
   obtain ⟨j, hj⟩ : ∃ j, t.place.toList[0]? = some j := ⟨_, List.getElem?_eq_getElem (by simp; omega)⟩
   have hb0 : SetTable.below t.place 0 = 0 := by
    obtain ⟨_, l2, _⟩ := xu7 (hpw h1) 0
    apply Classical.byContradiction
    intro z
    have := l2 0 j (by omega) hj
    omega
   have hj' : t.place[0]? = some j := by rw [<- Array.getElem?_toList]; exact hj
   obtain ⟨e, he⟩ : ∃ e, es[0]? = some e := ⟨_, Array.getElem?_eq_getElem hi⟩
   have hve : (es.toList.map (·.2))[0]? = some e.2 := by rw [List.getElem?_map, Array.getElem?_toList, he]; rfl
   refine ya7 hI hS hd hf rfl (x := e.2) (next := j + 1) (fun R E' r => ya6 hS hd hf hb hled h1 (by rw [Int.toNat_natCast, hb0, he, hj']; exact r)) fun h' hI' sb => hQ _ _ hve ⟨⟨_, hI', .inr (.inr ⟨hb, hled, h1, rfl, j + 1, rfl, fun z => by omega, fun j' hj2 _ => ?_⟩)⟩, (sb.2 S hIS).trans hS⟩ (mv h' sb)
   rw [hj] at hj2
   cases hj2
   omega
 done := fun s Q E st hQ => by
  obtain ⟨⟨first, hI, hw⟩, hS⟩ := st
  have mv : ∀ h', Heap.ExtBut I s.heap h' -> Moved [I] (fun a b => b = a) s { s with heap := h' } := fun h' sb => ⟨fun b ob hb e => sb b ob (fun z => hb (by simp [z])) e, rfl, rfl, rfl, Nat.le_refl _⟩
  rcases hw with ⟨oT, items, nn, rfl, e1, e2, e3, e4⟩ | ⟨hb, ⟨k, rfl⟩, hvs⟩ | ⟨hb, hled, h1, hvs, k, rfl, hk0, hk1⟩
  ·exact zd9 hh hI hS hd hf rfl e1 e2 (Array.getElem?_eq_none (by omega)) fun h' e => hQ _ (mv h' e)
  ·refine yk2 hh hI hS hd hf rfl (fun R E' r => yh0 hS hd hf hb ?_) fun h' e => hQ _ (mv h' e)
   have : (pickOrder (w.params.setOrder S ep) es).size = vs.length := by rw [hvs]; simp
   rw [Array.getElem?_eq_none (by omega)]
   exact r
  ·refine yk2 hh hI hS hd hf rfl (fun R E' r => ya6 hS hd hf hb hled h1 ?_) fun h' e => hQ _ (mv h' e)
   have hfit := hf
   unfold SetTable.fits at hfit
   simp only [Bool.and_eq_true, beq_iff_eq, decide_eq_true_eq] at hfit
   have big : es.size <= SetTable.below t.place k := by
    rcases Nat.eq_zero_or_pos es.size with z | z
    ·omega
    ·have one : es.size = 1 := by omega
     obtain ⟨j, hj⟩ : ∃ j, t.place.toList[0]? = some j := ⟨_, List.getElem?_eq_getElem (by simp; omega)⟩
     have lt := hk1 j hj (by omega)
     obtain ⟨_, _, l3⟩ := xu7 (hpw h1) k
     apply Classical.byContradiction
     intro c
     have := l3 0 j (by omega) hj
     omega
   rw [Int.toNat_natCast, Array.getElem?_eq_none big]
   exact r
 self := fun i s Q E st hQ => by
  obtain ⟨⟨first, hI, _⟩, _⟩ := st
  have hTy : s.TypeIs (.ref I) "set_iterator" := ⟨_, hI, rfl⟩
  refine wpAny_pyIter_slot hTy xq4 (wpAny_call_entry xq4 hTy ya2 ?_ (yf8 _))
  show wpAny _ _ (ret (.ref I)) _ _ s
  exact wpAny_pure ⟨_, rfl, "set_iterator", _, hTy, xc4.lookup, hQ⟩
end
section
variable {prog : Program} {w : World} {K : Type} [DecidableEq K] {kn : KeyKind prog w K} {A : Around} {E : Value -> Shared -> Prop} {s : Shared}
theorem ya3 : entryFor table "set.__iter__" = some Builtin.«frozenset.__iter__» := entryFor_alias (id' := "frozenset.__iter__") (by kernel_rfl) rfl (by decide +kernel) (by kernel_rfl)
theorem rel_list {α β : Type} {f : α -> β} {l : List α} {i : Nat} {y : β} (h : (l.map f)[i]? = some y) : ∃ x, l[i]? = some x /\ y = f x := by
 rw [List.getElem?_map] at h
 obtain ⟨x, h1, h2⟩ := Option.map_eq_some_iff.mp h
 exact ⟨x, h1, h2.symm⟩
theorem fm_get {α β : Type} {f : α -> Option β} : ∀ l : List α, (∀ k ∈ l, ∃ y, f k = some y) -> (l.filterMap f).length = l.length /\ ∀ (j : Nat) (y : β), (l.filterMap f)[j]? = some y -> ∃ k, l[j]? = some k /\ f k = some y
 | [], _ => ⟨rfl, fun j y h => by simp at h⟩
 | a :: l, h => by
  obtain ⟨y, hy⟩ := h a (by simp)
  obtain ⟨h1, h2⟩ := fm_get l fun k hk => h k (by simp [hk])
  rw [List.filterMap_cons, hy]
  refine ⟨by rw [List.length_cons, List.length_cons, h1], fun j z hz => ?_⟩
  cases j with
  | zero => simp at hz; subst hz; exact ⟨a, rfl, hy⟩
  | succ j =>
   rw [List.getElem?_cons_succ] at hz
   obtain ⟨k, q1, q2⟩ := h2 j z hz
   exact ⟨k, by simpa using q1, q2⟩
theorem iter_set {S : Addr} {o : Obj} {es : Array (Int × Value)} {ep : Nat} {t : SetTable} {Q : Value -> Shared -> Prop} (ho : s.heap.get? S = some o) (hex : o.ExactSet) (hd : o.data = .set es ep t) (hf : t.fits es.size = true) (hsz : es.size <= 1000) (hpl : yg2 w es.size t)
  (h : ∀ h' d' I T vs, (∀ b ob, s.heap.get? b = some ob -> h'.get? b = some ob) -> s.heap.objs.size <= I -> I < h'.objs.size -> (T = S \/ s.heap.objs.size <= T) -> T ≠ I -> vs.Perm (es.toList.map (·.2)) -> ItSt w I S T o es ep t vs 0 h' -> Q (.ref I) { s with heap := h', drawn := d' }) :
  wpAny (model prog w) A (pyIter (.ref S)) Q E s := by
 have hTy : s.TypeIs (.ref S) "set" := ⟨o, ho, hex.1⟩
 have hlt := Heap.lt_size ho
 refine wpAny_pyIter_slot hTy PySem.F.slot_set_iter (wpAny_call_entry PySem.F.slot_set_iter hTy ya3 ?_ (PySem.F.args_set_iter_1 _))
 unfold Builtin.«frozenset.__iter__» Builtin.Frozenset.slot0 slotArgs
 simp only [List.isEmpty_nil, Bool.not_true, Bool.false_eq_true, ↓reduceIte, bind_assoc, List.length_nil, bne_self_eq_false]; refine wpAny_bind (wpAny_pure ?_)
 show wpAny _ _ (pure S >>= _) _ _ _
 refine wpAny_bind (wpAny_pure ?_); unfold Builtin.Frozenset.sizeOf
 refine wpAny_bind (wpAny_bind (wpAny_setEntries_of ho hd hf (wpAny_pure ?_)))
 unfold setDrawn setsByText
 refine wpAny_bind (wpAny_bind (wpAny_setState_of ho hd hf ?_))
 dsimp only
 refine wpAny_bind (wpAny_bind (wpAny_askSetting (wpAny_pure ?_))); refine wpAny_pure ?_
 show wpAny _ _ (if (!(w.params.followText "set-order") && (!t.plain && decide (es.size > 1))) = true then _ else _) _ _ _
 by_cases c : (!(w.params.followText "set-order") && (!t.plain && decide (es.size > 1))) = true
 ·rw [if_pos c]
  refine wpAny_bind (xy1 _ _ (by simp) fun order d' hp => ?_)
  simp only [newTuple]
  have hol : order.length = es.size := by rw [hp.length_eq, List.length_range]
  obtain ⟨fm1, fm2⟩ := fm_get (f := fun k => (es.toList.map (·.2))[k]?) order fun k hk => by
   have := List.mem_range.mp (hp.mem_iff.mp hk)
   exact ⟨_, List.getElem?_eq_getElem (by simpa using this)⟩
  refine wpAny_bind (wpAny_newObj_type ?_ (by
   show (order.map _).toArray.size <= _
   rw [List.size_toArray, List.length_map, hol, sizeLine_eq]
   omega))
  generalize hob : ({ cls := Value.type "tuple", data := Data.seq (order.map fun (i : Nat) => rawInt ↑i).toArray } : Obj) = oT
  have hoT : (s.heap.push oT).get? s.heap.objs.size = some oT := Heap.get?_push_size _ (by rw [<- hob]; rfl)
  have ho1 : (s.heap.push oT).get? S = some o := Heap.get?_push_of_some _ ho
  refine wpAny_bind (wpAny_setEpoch_of (s := { s with heap := s.heap.push oT, drawn := d' }) ho1 hd hf ?_)
  refine wpAny_bind (wpAny_newObj_type ?_); generalize hoi : ({ cls := Value.type "set_iterator", data := Data.fields [Value.ref s.heap.objs.size, rawInt 0, Value.ref S, rawInt ↑es.size, rawInt ↑ep].toArray } : Obj) = oI
  have hI : ((s.heap.push oT).push oI).get? (s.heap.push oT).objs.size = some (xr5 (.ref s.heap.objs.size) 0 S es.size ep) := (Heap.get?_push_size _ (by rw [<- hoi]; rfl)).trans (by rw [<- hoi]; rfl)
  have hsz : (s.heap.push oT).objs.size = s.heap.objs.size + 1 := Heap.size_push _ _
  have hsz2 : ((s.heap.push oT).push oI).objs.size = s.heap.objs.size + 2 := by rw [Heap.size_push, hsz]
  refine wpAny_pure ⟨_, rfl, "set_iterator", _, ⟨_, hI, rfl⟩, xc4.lookup, ?_⟩
  refine h _ d' _ s.heap.objs.size (order.filterMap fun k => (es.toList.map (·.2))[k]?) (fun b ob e => Heap.get?_push_of_some _ (Heap.get?_push_of_some _ e)) (by rw [hsz]; exact Nat.le_succ _) (by rw [hsz2, hsz]; exact Nat.lt_succ_self _) (.inr (Nat.le_refl _)) (by rw [hsz]; exact Nat.ne_of_lt (Nat.lt_succ_self _)) ?_ ⟨⟨_, hI, .inl ⟨oT, _, 0, rfl, Heap.get?_push_of_some _ hoT, by rw [<- hob], ?_, ?_⟩⟩, Heap.get?_push_of_some _ ho1⟩
  ·have := hp.filterMap (fun k => (es.toList.map (·.2))[k]?)
   refine this.trans ?_
   rw [show es.size = (es.toList.map (·.2)).length by simp, xv8]
  ·rw [List.size_toArray, List.length_map, fm1]
  ·intro j x hx
   obtain ⟨k, hk1, hk2⟩ := fm2 j x hx
   obtain ⟨e, he1, he2⟩ := rel_list hk2
   refine ⟨k, e.1, ?_, ?_⟩
   ·rw [<- Array.getElem?_toList, List.toList_toArray, List.getElem?_map, hk1]; rfl
   ·rw [<- Array.getElem?_toList, he1, he2]
 ·rw [if_neg c]
  refine wpAny_bind (wpAny_pure ?_); refine wpAny_bind (wpAny_setEpoch_of ho hd hf ?_)
  refine wpAny_bind (wpAny_newObj_type ?_); generalize hoi : ({ cls := Value.type "set_iterator", data := Data.fields [rawInt 0, rawInt 0, Value.ref S, rawInt ↑es.size, rawInt ↑ep].toArray } : Obj) = oI
  have hI : (s.heap.push oI).get? s.heap.objs.size = some (xr5 (.int ((0 : Nat) : Int) 0) 0 S es.size ep) := (Heap.get?_push_size _ (by rw [<- hoi]; rfl)).trans (by rw [<- hoi]; rfl)
  refine wpAny_pure ⟨_, rfl, "set_iterator", _, ⟨_, hI, rfl⟩, xc4.lookup, ?_⟩
  have hS1 : (s.heap.push oI).get? S = some o := Heap.get?_push_of_some _ ho
  have hsz : (s.heap.push oI).objs.size = s.heap.objs.size + 1 := Heap.size_push _ _
  have keep : ∀ b ob, s.heap.get? b = some ob -> (s.heap.push oI).get? b = some ob := fun b ob e => Heap.get?_push_of_some _ e
  cases hb : w.params.followText "set-order" with
  | true =>
   exact h _ s.drawn _ S ((pickOrder (w.params.setOrder S ep) es).toList.map (·.2)) keep (Nat.le_refl _) (by omega) (.inl rfl) (Nat.ne_of_lt hlt) ((yi1 _ _).map _) ⟨⟨_, hI, .inr (.inl ⟨hb, ⟨0, rfl⟩, rfl⟩)⟩, hS1⟩
  | false =>
   have small : es.size <= 1 := by
    apply Classical.byContradiction
    intro z
    rcases hpl.1 with q | q
    ·omega
    ·rw [hb, q] at c; simp at c; omega
   exact h _ s.drawn _ S (es.toList.map (·.2)) keep (Nat.le_refl _) (by omega) (.inl rfl) (Nat.ne_of_lt hlt) (.refl _) ⟨⟨_, hI, .inr (.inr ⟨hb, by rw [hpl.2, hb]; rfl, small, rfl, 0, rfl, fun _ => rfl, fun j _ z => by omega⟩)⟩, hS1⟩
end
section
variable {prog : Program} {w : World} {K : Type} [DecidableEq K] {kn : KeyKind prog w K} {A : Around} {E : Value -> Shared -> Prop} {s : Shared}
theorem xy5 {S : Addr} {o : Obj} {es : Array (Int × Value)} {ep : Nat} {t : SetTable} {Q : List Value -> Shared -> Prop} (hh : A.handled = none) (ho : s.heap.get? S = some o) (hex : o.ExactSet) (hd : o.data = .set es ep t) (hfs : t.fits es.size = true) (hsz : es.size <= 1000) (hpl : yg2 w es.size t) (hpw : es.size <= 1 -> t.place.toList.Pairwise (· < ·))
  (h : ∀ s' vs, (∀ b ob, s.heap.get? b = some ob -> s'.heap.get? b = some ob) -> s.heap.objs.size <= s'.heap.objs.size -> s'.gens = s.gens -> s'.os = s.os -> vs.Perm (es.toList.map (·.2)) -> Q vs s') :
  wpAny (model prog w) A (collect (.ref S)) Q E s := by
 have hTy : s.TypeIs (.ref S) "set" := ⟨o, ho, hex.1⟩
 have hlt := Heap.lt_size ho
 unfold collect
 refine wpAny_bind (wpAny_runValue (codeAny_builtin PySem.F.entry_proto_collect ?_))
 rw [Around.under_plainId PySem.F.plain_proto_collect _]; show wpAny _ A.in1 (newList [] >>= fun l => again (.builtin "list.__iadd__" ⟨[l, .ref S], []⟩)) _ _ s
 refine wpAny_bind (wpAny_newObj_type ?_); refine wpAny_pure ⟨plainId_quiet PySem.F.plain_list_iadd _, codeAny_builtin PySem.F.entry_list_iadd ?_⟩
 rw [Around.under_plainId PySem.F.plain_list_iadd _]; generalize hL : ({ cls := Value.type "list", data := Data.seq ([] : List Value).toArray } : Obj) = oL
 have k1 : ∀ b ob, s.heap.get? b = some ob -> (s.heap.push oL).get? b = some ob := fun b ob e => Heap.get?_push_of_some _ e
 have hL1 : (s.heap.push oL).get? s.heap.objs.size = some oL := Heap.get?_push_size _ (by rw [<- hL]; rfl)
 have ho1 := k1 _ _ ho
 have sz1 : (s.heap.push oL).objs.size = s.heap.objs.size + 1 := Heap.size_push _ _
 have hTy1 : Shared.TypeIs { s with heap := s.heap.push oL } (.ref S) "set" := ⟨o, ho1, hex.1⟩
 show wpAny _ A.in1 (Builtin.List.listExtendWith (.ref s.heap.objs.size) (.ref S) (.ref s.heap.objs.size)) _ _ _
 unfold Builtin.List.listExtendWith; refine wpAny_bind (wpAny_typeOf hTy1 ?_)
 have q1 : Builtin.List.listSameRef (.ref s.heap.objs.size) (.ref S) = false := by
  have : s.heap.objs.size ≠ S := Nat.ne_of_gt hlt
  simp [Builtin.List.listSameRef, this]
 rw [if_neg (by rw [q1]; decide)]
 refine wpAny_bind (iter_set (s := { s with heap := s.heap.push oL }) ho1 hex hd hfs hsz hpl fun h2 d2 I T vs k2 hI1 hI2 hTa hTI hp st => ?_)
 have hI1 : s.heap.objs.size + 1 <= I := by rw [<- sz1]; exact hI1
 have ho2 := k2 _ _ ho1
 have hTy2 : Shared.TypeIs { s with heap := h2, drawn := d2 } (.ref S) "set" := ⟨o, ho2, hex.1⟩
 refine wpAny_bind (wpAny_holding ?_); unfold Builtin.List.listLengthHint
 refine wpAny_bind (wpAny_specialOf hTy2 PySem.F.slot_set_len.lookup ?_)
 generalize hid : ("set.__len__" : String) = name0
 wp_delta
 have hsp : splitId name0 = some ("set", "__len__") := by subst hid; decide +kernel
 rw [hsp]
 subst hid
 show wpAny _ _ (isInstance (Value.ref S) (Value.type "set") >>= _) _ _ _
 refine wpAny_bind (wpAny_isInstance hTy2 sub_set_self ?_)
 show wpAny _ _ (typeOf (Value.ref S) >>= _) _ _ _
 refine wpAny_bind (wpAny_typeOf hTy2 ?_)
 refine wpAny_pure ?_
 show wpAny _ A.in1 (rule "list.extend.makes-room" >>= fun _ => Builtin.List.listTouch (.ref s.heap.objs.size) >>= fun _ => again (.builtin "list.extend.loop" ⟨[.ref s.heap.objs.size, .ref I, .ref s.heap.objs.size], []⟩)) _ _ _
 refine wpAny_bind (wpAny_rule ?_); have hL2 : h2.get? s.heap.objs.size = some oL := k2 _ _ hL1
 refine wpAny_bind ?_
 show wpAny _ A.in1 (updateSeq s.heap.objs.size (·.push .none) >>= fun _ => updateSeq s.heap.objs.size (·.pop)) _ _ _; refine wpAny_bind (wpAny_updateSeq (s := { s with heap := h2, drawn := d2 }) hL2 (by rw [<- hL]) ?_)
 have hL3 := Heap.get?_update_self (Obj.mapSeq (·.push Value.none)) hL2 (by rw [<- hL]; rfl)
 have sb3 := Heap.SameBut.update h2 s.heap.objs.size (Obj.mapSeq (·.push Value.none))
 generalize h2.update s.heap.objs.size (Obj.mapSeq (·.push Value.none)) = h3 at hL3 sb3 ⊢
 refine wpAny_updateSeq (s := { s with heap := h3, drawn := d2 }) hL3 (by rw [<- hL]; rfl) ?_
 have hL4 := Heap.get?_update_self (Obj.mapSeq (·.pop)) hL3 (by rw [<- hL]; rfl)
 have sb4 := Heap.SameBut.update h3 s.heap.objs.size (Obj.mapSeq (·.pop))
 generalize h3.update s.heap.objs.size (Obj.mapSeq (·.pop)) = h4 at hL4 sb4 ⊢
 have sb := sb3.trans sb4
 have hvl : vs.length = es.size := by rw [hp.length_eq]; simp
 have hIL : I ≠ s.heap.objs.size := Nat.ne_of_gt (Nat.lt_of_lt_of_le (Nat.lt_succ_self _) hI1)
 have hSL : S ≠ s.heap.objs.size := Nat.ne_of_lt hlt
 have hTL : T ≠ s.heap.objs.size := by
  rcases hTa with z | z
  ·rw [z]; exact hSL
  ·have : s.heap.objs.size + 1 <= T := by rw [<- sz1]; exact z
   exact Nat.ne_of_gt (Nat.lt_of_lt_of_le (Nat.lt_succ_self _) this)
 have hSI : S ≠ I := Nat.ne_of_lt (Nat.lt_of_lt_of_le hlt (by omega))
 have W := walk_set (prog := prog) (w := w) (A := A.in1) (T := T) (fp := [I, S, T]) hh hd hfs hvl hSI hpw (by simp) (by simp) (by simp) hTI
 have st4 : ItSt w I S T o es ep t vs 0 h4 := W.frame 0 { s with heap := h2, drawn := d2 } h4 s.toks st (Nat.le_refl _) fun b hb ob e => by
  have ne : b ≠ s.heap.objs.size := by
   simp only [List.mem_cons, List.not_mem_nil, or_false] at hb; rcases hb with rfl | rfl | rfl <;> assumption
  exact (sb.2 b ne).trans e
 subst hL
 have small : es.size <= sizeLine := by rw [sizeLine_eq]; omega
 refine wpAny_pure ⟨plainId_quiet PySem.F.plain_extend_loop _, codeAny_extend_loopS W (by rw [hvl]; exact small) s.heap.objs.size (by simp only [List.mem_cons, List.not_mem_nil, or_false, not_or]; exact ⟨Ne.symm hIL, Ne.symm hSL, Ne.symm hTL⟩) _ vs.length 0 { s with heap := h4, drawn := d2 } #[] _ rfl (Nat.zero_le _) st4 (hL4.trans rfl) (ItemsOf.nil _) fun s' acc c hm hS' hacc => ?_⟩
 show wpAny _ A (load s.heap.objs.size >>= _) _ _ s'; refine wpAny_bind (wpAny_load hS' (wpAny_pure ?_))
 have eacc : acc.toList = vs := by
  refine List.ext_getElem? fun j => ?_
  by_cases c : j < vs.length
  ·obtain ⟨v, hv⟩ : ∃ v, acc[j]? = some v := ⟨_, Array.getElem?_eq_getElem (by rw [hacc.1]; exact c)⟩
   rw [Array.getElem?_toList, hv, hacc.2 j v hv]
  ·have l1 : acc.toList.length <= j := by rw [Array.length_toList, hacc.1]; omega
   have l2 : vs.length <= j := by omega
   rw [List.getElem?_eq_none l1, List.getElem?_eq_none l2]
 rw [eacc]
 refine h s' vs (fun b ob e => ?_) (Nat.le_of_lt (Heap.lt_size hS')) hm.gens hm.os ?_
 ·have hb := Heap.lt_size e
  refine hm.heap b ob ?_ ((sb.2 b (Nat.ne_of_lt hb)).trans (k2 _ _ (k1 _ _ e)))
  simp only [List.mem_cons, List.not_mem_nil, or_false, not_or]
  exact ⟨Nat.ne_of_lt hb, Nat.ne_of_lt (Nat.lt_of_lt_of_le hb (by omega))⟩
 ·exact hp
theorem yo2 {S : Addr} {xs : List (List K × Addr)} {Q : List Value -> Shared -> Prop} (hh : A.handled = none) (hS : xd0 kn s.heap S xs)
  (h : ∀ s' vs, (∀ b ob, s.heap.get? b = some ob -> s'.heap.get? b = some ob) -> s.heap.objs.size <= s'.heap.objs.size -> s'.gens = s.gens -> s'.os = s.os -> vs.Perm (xs.map fun x => Value.ref x.2) -> Q vs s') :
  wpAny (model prog w) A (collect (.ref S)) Q E s := by
 obtain ⟨o, es, ep, t, ho, hex, hd, Sa, hpl⟩ := hS
 have hz : es.size <= 1000 := by
  rw [Sa.size]
  have := Sa.cap
  rcases Sa.tab.mask with z | z | z | z | z <;> omega
 refine xy5 hh ho hex hd Sa.fits hz (by rw [Sa.size]; exact hpl) (fun _ => Sa.tab.pw) fun s' vs k1 k2 k3 k4 hp => h s' vs k1 k2 k3 k4 ?_
 rw [Sa.es, List.map_map] at hp
 exact hp
end
open PySem PySem.W PyProof.Rows
def xt3 {α : Type} (n : Nat) (P : α -> Prop) : KasT α -> Prop
 | .ret a => P a
 | .ask i j k => i < n /\ j < n /\ ∀ b, xt3 n P (k b)
theorem xm0 {α β : Type} {n : Nat} {P : α -> Prop} {R : β -> Prop} {f : α -> KasT β} : ∀ t : KasT α, xt3 n P t -> (∀ a, P a -> xt3 n R (f a)) -> xt3 n R (t.bind f)
 | .ret a, h, hf => hf a h
 | .ask i j k, h, hf => ⟨h.1, h.2.1, fun b => xm0 (k b) (h.2.2 b) hf⟩
theorem zd5 {α : Type} {n : Nat} {P : α -> Prop} {cmp : Nat -> Nat -> (Bool -> Shared -> Prop) -> Shared -> Prop} {Q : α -> Shared -> Prop} {s : Shared} (hc : ∀ i j C, i < n -> j < n -> (∀ b, C b s) -> cmp i j C s) (hq : ∀ a, P a -> Q a s) : ∀ t : KasT α, xt3 n P t -> t.kasWp cmp Q s
 | .ret a, h => hq a h
 | .ask i j k, h => hc i j _ h.1 h.2.1 fun b => zd5 hc hq (k b) (h.2.2 b)
def xl0 (n : Nat) (p : Array Nat) : Prop := p.Perm (List.range n).toArray
theorem xl0.get {n : Nat} {p : Array Nat} (h : xl0 n p) (hn : 0 < n) (i : Nat) : p.getD i 0 < n := by
 by_cases c : i < p.size
 ·have : p[i] ∈ (List.range n).toArray := h.mem_iff.mp (Array.getElem_mem c)
  simp at this
  simp [Array.getD, c]
  exact this
 ·simp [Array.getD, c]
  exact hn
theorem xl0.rev {n : Nat} {p : Array Nat} (h : xl0 n p) (i j : Nat) : xl0 n (kas_rev p i j) := (mirror_perm _ _ _ _).trans h
section
variable {n : Nat} (hn : 0 < n)
include hn
theorem yf4 {p : Array Nat} (h : xl0 n p) : ∀ f m, xt3 n (fun _ => True) (kas_asc p f m)
 | 0, m => trivial
 | f + 1, m => ⟨h.get hn _, h.get hn _, fun b => by
  cases b with
  | true => exact trivial
  | false => exact yf4 h f (m + 1)⟩
theorem xr8 : ∀ f p m q, xl0 n p -> xt3 n (fun r => xl0 n r.1) (kas_desc f p m q)
 | 0, p, m, q, h => h
 | f + 1, p, m, q, h => ⟨h.get hn _, h.get hn _, fun b => by
  cases b with
  | true =>
   simp only [if_true]
   split
   ·exact xr8 f _ _ _ (h.rev _ _)
   ·exact xr8 f _ _ _ h
  | false =>
   refine ⟨h.get hn _, h.get hn _, fun d => ?_⟩
   cases d with
   | true => exact h
   | false => exact xr8 f _ _ _ h⟩
theorem yc5 {m nrem : Nat} {p : Array Nat} (h : xl0 n p) : xt3 n (fun r => xl0 n r.2) (kas_tail3 m nrem p) :=
 xm0 _ (yf4 hn (h.rev _ _) _ _) fun a _ => h.rev _ _
theorem xr7 {m nrem : Nat} {p : Array Nat} (h : xl0 n p) : xt3 n (fun r => xl0 n r.2) (kas_descPart m nrem p) := by
 refine xm0 _ (xr8 hn _ _ _ _ h) fun r hr => ?_
 split
 ·exact yc5 hn (hr.rev _ _)
 ·exact yc5 hn hr
theorem yv7 {nrem : Nat} {p : Array Nat} (h : xl0 n p) : xt3 n (fun r => xl0 n r.2) (kas_count nrem p) := by
 refine xm0 _ (yf4 hn h _ _) fun m _ => ?_
 split
 ·exact h
 ·split
  ·refine ⟨h.get hn _, h.get hn _, fun b => ?_⟩
   cases b with
   | true => exact h
   | false => exact xr7 hn (h.rev _ _)
  ·exact xr7 hn h
theorem xt0 {p : Array Nat} (h : xl0 n p) (k : Nat) : ∀ f l r, xt3 n (fun _ => True) (kas_place p k f l r)
 | 0, l, r => trivial
 | f + 1, l, r => by
  unfold kas_place
  split
  ·exact trivial
  ·refine ⟨h.get hn _, h.get hn _, fun b => ?_⟩
   cases b with
   | true => exact xt0 h k f _ _
   | false => exact xt0 h k f _ _
theorem yr2 : ∀ f p k, xl0 n p -> xt3 n (xl0 n) (kas_bin f p k)
 | 0, p, k, h => h
 | f + 1, p, k, h => xm0 _ (xt0 hn h k _ _ _) fun l _ => yr2 f _ _ ((bubble_perm _ _ _).trans h)
theorem zd6 : xt3 n (xl0 n) (kas_sort n) := by
 refine xm0 _ (yv7 hn (Array.Perm.refl _)) fun r hr => ?_
 split
 ·exact yr2 hn _ _ _ hr
 ·exact hr
end
section
variable {w : World} {prog : Program} {A : Around} {E : Value -> Shared -> Prop} {s : Shared}
def xp3 (h : Heap) (b : Addr) : Prop := ∃ o x t r n, h.get? b = some o /\ o.cls = .type "tuple" /\ o.data = .seq (Value.str x t :: r).toArray n /\ ∀ v ∈ r, ∃ y u, v = Value.str y u
theorem zb5 {b fin : Bool} {Q : Bool -> Shared -> Prop} (hq : ∀ c, Q c s) : ∀ (l : List (Value × Value)) (i : Nat), (∀ p ∈ l, (∃ x t, p.1 = Value.str x t) /\ ∃ y u, p.2 = Value.str y u) -> KatLex prog w A b fin Q l i s
 | [], i, _ => kat_nil (hq fin)
 | (p, q) :: r, i, h => by
  obtain ⟨⟨x, t, e1⟩, y, u, e2⟩ := h (p, q) (by simp)
  simp only at e1 e2
  subst e1 e2
  refine kat_cons (wpAny_eqBool_str ?_)
  refine kat_go (fun _ => kat_yes (zb5 hq r (i + 1) fun z hz => h z (by simp [hz]))) (fun _ => kat_no ?_)
  cases (b && i == 0) with
  | true => exact oneLt_str (hq _)
  | false => exact kat_one _ _ (lt_str (hq _))
theorem cmp_any {b : Bool} {x y : Addr} {Q : Bool -> Shared -> Prop} (hx : xp3 s.heap x) (hy : xp3 s.heap y) (hq : ∀ c, Q c s) : wpAny (model prog w) A (keyLt' (tuples' b) (.ref x) (.ref y)) Q E s := by
 obtain ⟨o1, x1, t1, r1, n1, a1, a2, a3, a4⟩ := hx
 obtain ⟨o2, x2, t2, r2, n2, b1, b2, b3, b4⟩ := hy
 refine kat_lt a1 a3 b1 b3 (zb5 hq _ _ fun p hp => ?_)
 have h1 := (List.of_mem_zip hp).1
 have h2 := (List.of_mem_zip hp).2
 simp only [List.mem_cons] at h1 h2
 exact ⟨by rcases h1 with z | z; exact ⟨x1, t1, z⟩; exact a4 _ z, by rcases h2 with z | z; exact ⟨x2, t2, z⟩; exact b4 _ z⟩
theorem yw9 {h : Heap} : ∀ vs : List Value, (∀ v ∈ vs, ∃ b, v = Value.ref b /\ xp3 h b) -> ∃ fs, KatTups h vs fs /\ fs.length = vs.length /\ ∀ f ∈ fs, ∃ x t, f = Value.str x t
 | [], _ => ⟨[], KatTups.nil, rfl, fun f hf => by simp at hf⟩
 | v :: vs, hv => by
  obtain ⟨fs, h1, h2, h3⟩ := yw9 vs fun u hu => hv u (by simp [hu])
  obtain ⟨b, rfl, o, x, t, r, n, a1, a2, a3, a4⟩ := hv v (by simp)
  refine ⟨Value.str x t :: fs, KatTups.cons a1 a2 a3 (by simp) h1, by simp [h2], fun f hf => ?_⟩
  rcases List.mem_cons.mp hf with rfl | hf
  ·exact ⟨x, t, rfl⟩
  ·exact h3 f hf
theorem yt5 {vs : List Value} {p : Array Nat} (h : xl0 vs.length p) : ((p.map (kas_item (pairsOf vs))).map (·.2)).toList.Perm vs := by
 have e : ((p.map (kas_item (pairsOf vs))).map (·.2)).toList = p.toList.map fun i => vs.getD i Value.none := by
  rw [Array.toList_map, Array.toList_map, List.map_map]
  refine List.map_congr_left fun i _ => ?_; show (kas_item (pairsOf vs) i).2 = _
  rw [kas_item_eq]
 rw [e]
 have hp : p.toList.Perm (List.range vs.length) := by simpa using Array.perm_iff_toList_perm.mp h
 refine (hp.map _).trans ?_
 have : (List.range vs.length).map (fun i => vs.getD i Value.none) = vs := by
  refine List.ext_getElem (by simp) fun i h1 h2 => ?_
  simp at h1
  simp [h1]
 rw [this]
theorem yx6 {a : Addr} {vs : List Value} {n : Nat} {P : PySem.Fin -> Shared -> Prop} (ho : s.heap.get? a = some (seqObj "list" vs.toArray n)) (hv : ∀ v ∈ vs, ∃ b, v = Value.ref b /\ xp3 s.heap b) (h64 : vs.length < 64)
  (h : ∀ h' out e, Heap.ExtBut a s.heap h' -> h'.get? a = some (seqObj "list" out e) -> out.toList.Perm vs -> P (.done (.ret .none)) { s with heap := h' }) : wpAny (model prog w) A (Builtin.«list.sort» ⟨[.ref a], []⟩) P E s := by
 rw [list_sort_plain]
 have ha : a < s.heap.objs.size := Heap.lt_size ho; refine wpAny_bind (listItems_at ho rfl ?_)
 refine wpAny_bind (listUpdate_at ho rfl ?_ (by rw [List.size_toArray, sizeLine_eq]; omega) (Nat.zero_le _)); obtain ⟨e1, ho1⟩ : ∃ e1, (s.heap.update a (Obj.mapSeq fun _ => (#[] : Array Value))).get? a = some (seqObj "list" #[] e1) := ⟨_, get?_update_seq ho fun _ => #[]⟩
 have sb1 := Heap.SameBut.update s.heap a (Obj.mapSeq fun _ => (#[] : Array Value))
 generalize s.heap.update a (Obj.mapSeq fun _ => (#[] : Array Value)) = h1 at ho1 sb1 ⊢
 refine wpAny_bind (seqEpoch_at (s := { s with heap := h1 }) ho1 rfl ?_)
 refine wpAny_bind (wpAny_newTuple ?_ (by show vs.length <= _; rw [sizeLine_eq]; omega)); refine wpAny_bind (wpAny_newList ?_ (by show 0 <= _; exact Nat.zero_le _))
 refine wpAny_holding ?_
 dsimp only
 generalize hot : ({ cls := Value.type "tuple", data := Data.seq vs.toArray.toList.toArray } : Obj) = oT
 generalize hol : ({ cls := Value.type "list", data := Data.seq ([] : List Value).toArray } : Obj) = oL
 have k2 : ∀ b o, h1.get? b = some o -> ((h1.push oT).push oL).get? b = some o := fun b o e => Heap.get?_push_of_some _ (Heap.get?_push_of_some _ e)
 have ho2 := k2 _ _ ho1
 have ext : Heap.ExtBut a s.heap ((h1.push oT).push oL) := fun b o hb e => k2 b o ((sb1.2 b hb).trans e)
 generalize (h1.push oT).push oL = h2 at k2 ho2 ext ⊢
 have hv2 : ∀ v ∈ vs, ∃ b, v = Value.ref b /\ xp3 h2 b := fun v hvv => by
  obtain ⟨b, rfl, o, x, t, r, m, a1, a2, a3, a4⟩ := hv v hvv
  have ne : b ≠ a := by
   rintro rfl
   rw [ho] at a1
   cases a1
   exact absurd (show Value.type "list" = Value.type "tuple" from a2) (by decide)
  exact ⟨b, rfl, o, x, t, r, m, ext b o ne a1, a2, a3, a4⟩
 have hsz : vs.toArray.size = vs.length := (by simp); have fin : ∀ (st : SortSt), failedOf st = none -> ((arrOf st).map (·.2)).toList.Perm vs -> wpAny (model prog w) A (do
   let ep <- seqEpoch a
   have touched : Bool := ep != e1
   Builtin.List.listUpdate (Value.ref a) fun _ => (arrOf st).map (·.2)
   if touched = true then do
     rule "list.sort.modified"
     let r <- (raiseErrorWords "ValueError" "list modified during sort" : Sem Unit)
     ret Value.none
    else ret Value.none) P E { s with heap := h2 } := by
  intro st hf hp
  refine wpAny_bind (seqEpoch_at (s := { s with heap := h2 }) ho2 rfl ?_)
  refine wpAny_bind (listUpdate_at (s := { s with heap := h2 }) ho2 rfl ?_ (Nat.zero_le _) (by
   rw [<- Array.length_toList, hp.length_eq, sizeLine_eq]; omega))
  simp only [bne_self_eq_false, Bool.false_eq_true, if_false]; obtain ⟨e3, ho3⟩ : ∃ e3, (h2.update a (Obj.mapSeq fun _ => (arrOf st).map (·.2))).get? a = some (seqObj "list" ((arrOf st).map (·.2)) e3) := ⟨_, get?_update_seq ho2 fun _ => (arrOf st).map (·.2)⟩
  have sb3 := Heap.SameBut.update h2 a (Obj.mapSeq fun _ => (arrOf st).map (·.2))
  exact wpAny_pure (h _ _ e3 (ext.trans sb3.extBut) ho3 hp)
 by_cases h2' : vs.toArray.size < 2
 ·rw [if_pos h2']
  refine wpAny_bind (wpAny_pure ?_); rw [if_pos h2', StateT.run_pure]
  refine wpAny_bind (wpAny_pure ?_); dsimp only
  exact fin (SortSt.mk' general' (vs.toArray.zip vs.toArray) #[] 7 none) rfl (by
   show ((vs.toArray.zip vs.toArray).map (·.2)).toList.Perm vs
   have : ((vs.toArray.zip vs.toArray).map (·.2)).toList = vs := by
    rw [Array.toList_map, Array.toList_zip, List.map_snd_zip (by simp)]
   rw [this])
 ·rw [if_neg h2']
  obtain ⟨fs, t1, t2, t3⟩ := yw9 vs hv2
  refine wpAny_bind (kat_kind (s := { s with heap := h2 }) (T := .type "str") t1 (by omega) (fun v hvv => ?_) (by decide) ?_)
  ·obtain ⟨x, t, rfl⟩ := t3 v hvv
   exact Looks.of_pure rfl
  rw [if_neg h2']
  have start : SortSt.mk' (tuples' (Value.type "str" != Value.type "tuple")) (vs.toArray.zip vs.toArray) #[] 7 none = kas_st (tuples' (Value.type "str" != Value.type "tuple")) (pairsOf vs) (List.range vs.length).toArray := by
   unfold kas_st
   rw [show vs.length = (pairsOf vs).size from (pairsOf_size vs).symm, kas_range]
   rfl
  rw [start]
  refine wpAny_bind (wpAny_mono (kas_runs (Q := fun _ st s' => failedOf st = none /\ ((arrOf st).map (·.2)).toList.Perm vs /\ s' = { s with heap := h2 }) (G := fun p s' => xl0 vs.length p /\ s' = { s with heap := h2 }) (by omega) h64 (fun p st s' _ e1 e2 hg => ⟨e2, by rw [e1]; exact yt5 hg.1, hg.2⟩) ?_) ?_ (fun _ _ x => x))
  ·refine zd5 (P := xl0 vs.length) (n := vs.length) (fun i j C hi hj hC => ?_) (fun p hp => ⟨hp, rfl⟩) _ (zd6 (by omega))
   rw [<- kas_ask_eq]
   unfold kas_ask
   rw [List.getD_eq_getElem?_getD, List.getD_eq_getElem?_getD, List.getElem?_eq_getElem hi, List.getElem?_eq_getElem hj]; obtain ⟨x, ex, hx⟩ := hv2 _ (List.getElem_mem hi)
   obtain ⟨y, ey, hy⟩ := hv2 _ (List.getElem_mem hj)
   show wpAny _ _ (keyLt' _ vs[i] vs[j]) _ _ _
   rw [ex, ey]
   exact cmp_any hx hy hC
  ·rintro ⟨⟨⟩, st⟩ s' ⟨hf, hp, rfl⟩
   dsimp only
   have := fin st hf hp
   rw [hf]
   exact this
end
section
variable {prog : Program} {w : World} {K : Type} [DecidableEq K] {kn : PySem.KeyKind prog w K} {A : Around} {E : Value -> Shared -> Prop} {s : Shared}
theorem grow_tup {h h' : Heap} {a : Addr} (k : ∀ b o, h.get? b = some o -> h'.get? b = some o) (hs : xp3 h a) : xp3 h' a := by
 obtain ⟨o, x, t, r, n, a1, a2⟩ := hs
 exact ⟨o, x, t, r, n, k _ _ a1, a2⟩
theorem ys4 {S : Addr} {xs : List (List K × Addr)} {Q : Value -> Shared -> Prop} (hh : A.handled = none) (hS : xd0 kn s.heap S xs) (htt : ∀ x ∈ xs, xp3 s.heap x.2) (h64 : xs.length < 64)
  (h : ∀ s' l out e, (∀ b ob, s.heap.get? b = some ob -> s'.heap.get? b = some ob) -> s'.gens = s.gens -> s'.os = s.os -> s.heap.objs.size <= l -> s'.heap.get? l = some (seqObj "list" out e) -> out.toList.Perm (xs.map fun x => Value.ref x.2) -> Q (.ref l) s') :
  wpAny (model prog w) A (call (.builtin "sorted") [.ref S]) Q E s := by
 refine Calls.call_function_entry kind_sorted plain_sorted entry_sorted (args_sorted1 _) ?_; unfold Builtin.«sorted»
 refine wpAny_bind (m := checkCount "sorted" 1 1 _) (wpAny_pure ?_); refine wpAny_bind (yo2 (A := A.in1) hh hS fun s1 vs k1 le1 g1 o1 hp => ?_)
 have hvl : vs.length = xs.length := by rw [hp.length_eq, List.length_map]
 refine wpAny_bind (wpAny_newList ?_ (by rw [hvl, sizeLine_eq]; omega))
 have hoL : (s1.heap.push (seqObj "list" vs.toArray 0)).get? s1.heap.objs.size = some (seqObj "list" vs.toArray 0) := Heap.get?_push_size _ rfl
 have k2 : ∀ b ob, s.heap.get? b = some ob -> (s1.heap.push (seqObj "list" vs.toArray 0)).get? b = some ob := fun b ob e => Heap.get?_push_of_some _ (k1 b ob e)
 have hnone : s.heap.get? s1.heap.objs.size = none := by
  cases e : s.heap.get? s1.heap.objs.size with
  | none => rfl
  | some o => have := k1 _ _ e; rw [xj6] at this; cases this
 have hv : ∀ v ∈ vs, ∃ b, v = Value.ref b /\ xp3 (s1.heap.push (seqObj "list" vs.toArray 0)) b := fun v hvv => by
  obtain ⟨x, hx, rfl⟩ := List.mem_map.mp (hp.mem_iff.mp hvv)
  exact ⟨x.2, rfl, grow_tup k2 (htt x hx)⟩
 refine wpAny_bind (wpAny_holding (wpAny_call_entry slot_list_sort ⟨_, hoL, rfl⟩ entry_list_sort (yx6 (s := { s1 with heap := s1.heap.push (seqObj "list" vs.toArray 0) }) hoL hv (by omega) fun h' out e ext ho' hp' => ⟨_, rfl, ?_⟩) (args_list_sort _)))
 refine wpAny_pure ⟨_, rfl, h _ _ out e (fun b ob eb => ?_) g1 o1 le1 ho' (hp'.trans hp)⟩
 have ne : b ≠ s1.heap.objs.size := by rintro rfl; rw [hnone] at eb; cases eb
 exact ext b ob ne (k2 b ob eb)
end
structure Firsts {K : Type} (zs l : List (List K × Addr)) : Prop where
 from_ : ∀ z ∈ zs, z ∈ l
 keys : ∀ k, k ∈ zs.map (·.1) ↔ k ∈ l.map (·.1)
section
variable {prog : Program} {w : World} {K : Type} [DecidableEq K] {kn : PySem.KeyKind prog w K} {A : Around} {E : Value -> Shared -> Prop} {s : Shared} {R : Result -> Shared -> Prop}
theorem zd4 {S I p : Addr} {items : Array Value} {l : List (List K × Addr)} (hi : items.toList = l.map fun x => Value.ref x.2) (hh : A.handled = none) (hu : A.units + 2 < cLine) (hIp : p ≠ I) (hSI : S ≠ I) (hSp : S ≠ p) (hll : l.length <= 36) :
  ∀ (k i : Nat) (s : Shared) (zs : List (List K × Addr)), l.length - i = k -> i <= l.length -> s.heap.IsListIter I p i /\ s.heap.IsList p items -> xd0 kn s.heap S zs -> Firsts zs (l.take i) -> zs.length <= i -> (∀ x ∈ l, IsTupleKey kn s.heap x.1 x.2 /\ xn0 s.heap x.2 /\ x.2 ≠ I /\ x.2 ≠ S) ->
   (∀ s' zs', (∀ b o, b ≠ S -> b ≠ I -> s.heap.get? b = some o -> s'.heap.get? b = some o) -> s'.gens = s.gens -> s'.os = s.os -> s'.drawn = s.drawn -> xd0 kn s'.heap S zs' -> Firsts zs' l -> R (.ok (.ret .none)) s') ->
   codeAny (model prog w) A (Code.builtin "set.update.loop" ⟨[.ref S, .ref I], []⟩) R s := by
 have W : WalksS prog w A.in1 I [I, p] [I] (fun a b => b = a) items.size (fun i v => items[i]? = some v) (fun i s => s.heap.IsListIter I p i /\ s.heap.IsList p items) := (Walks.list (A := A.in1) hh I p hIp items).toS
 have hn : items.size = l.length := by rw [<- Array.length_toList, hi, List.length_map]
 intro k
 induction k with
 | zero =>
  intro i s zs hk hil hst hS hF hz hl hR
  have hin : i = l.length := by omega
  subst hin
  refine codeAny_builtin PyProof.Rows.F.entry_set_update_loop ?_
  rw [Around.under_plainId PyProof.Rows.F.plain_set_update_loop _]
  show wpAny _ A.in1 (pyNext (.ref I) >>= _) _ _ s; refine wpAny_bind (W.done s _ _ (by rw [hn]; exact hst) fun s' hm => ?_)
  refine wpAny_pure (hR s' zs (fun b o _ hb e => hm.heap b o (by simpa using hb) e) hm.gens hm.os hm.drawn ?_ (by rw [List.take_length] at hF; exact hF))
  obtain ⟨o, es, ep, t, h1, h2, h3, Sa, h5⟩ := hS
  have kp : ∀ b o, b ≠ I -> s.heap.get? b = some o -> s'.heap.get? b = some o := fun b o hb e => hm.heap b o (by simpa using hb) e
  refine ⟨o, es, ep, t, kp _ _ hSI h1, h2, h3, ⟨Sa.es, fun x hx => ?_, Sa.nd, Sa.tab, Sa.cap⟩, h5⟩
  obtain ⟨o', it, n', a1, a2⟩ := Sa.is x hx
  have hx' : x ∈ l := by have := hF.from_ x hx; rwa [List.take_length] at this
  exact ⟨o', it, n', kp _ _ (hl x hx').2.2.1 a1, a2⟩
 | succ k ih =>
  intro i s zs hk hil hst hS hF hz hl hR
  have hlt : i < l.length := (by omega); refine codeAny_builtin PyProof.Rows.F.entry_set_update_loop ?_
  rw [Around.under_plainId PyProof.Rows.F.plain_set_update_loop _]
  show wpAny _ A.in1 (pyNext (.ref I) >>= _) _ _ s; refine wpAny_bind (W.item i s _ _ (by omega) hst fun v s' hP hst' hm => ?_)
  have hv : v = Value.ref l[i].2 := by
   have : items.toList[i]? = some v := by rw [Array.getElem?_toList]; exact hP
   rw [hi, List.getElem?_map, List.getElem?_eq_getElem hlt] at this; exact (Option.some.inj this).symm
  subst hv
  have kp : ∀ b o, b ≠ I -> s.heap.get? b = some o -> s'.heap.get? b = some o := fun b o hb e => hm.heap b o (by simpa using hb) e
  have hl' : ∀ x ∈ l, IsTupleKey kn s'.heap x.1 x.2 /\ xn0 s'.heap x.2 /\ x.2 ≠ I /\ x.2 ≠ S := fun x hx => by
   obtain ⟨⟨o1, it1, n1, a1, a2⟩, ⟨o2, it2, n2, b1, b2⟩, h3, h4⟩ := hl x hx
   exact ⟨⟨o1, it1, n1, kp _ _ h3 a1, a2⟩, ⟨o2, it2, n2, kp _ _ h3 b1, b2⟩, h3, h4⟩
  have hS' : xd0 kn s'.heap S zs := by
   obtain ⟨o, es, ep, t, h1, h2, h3, Sa, h5⟩ := hS
   refine ⟨o, es, ep, t, kp _ _ hSI h1, h2, h3, ⟨Sa.es, fun x hx => ?_, Sa.nd, Sa.tab, Sa.cap⟩, h5⟩
   obtain ⟨o', it, n', a1, a2⟩ := Sa.is x hx
   exact ⟨o', it, n', kp _ _ (hl x (List.mem_of_mem_take (hF.from_ x hx))).2.2.1 a1, a2⟩
  have hm1 := hl' l[i] (List.getElem_mem hlt)
  show wpAny _ A.in1 (holding [Value.ref l[i].2] (setAdd S (.ref l[i].2)) >>= _) _ _ s'
  refine wpAny_bind (wpAny_holding ?_); unfold setAdd
  refine wpAny_holding ?_
  have hu1 : A.in1.units < cLine := by rw [Around.in1_units]; omega
  refine wpAny_bind (wpAny_pyHash_tuple hu1 hm1.1 ?_)
  refine yl7 (s := { s' with toks := s'.toks + (l[i].1.length + 1) }) hu1 hS' hm1.1 hm1.2.1 (by omega) fun r h'' zs' sb hz' hin hnin => ?_
  refine wpAny_pure ⟨plainId_quiet PyProof.Rows.F.plain_set_update_loop _, ih (i + 1) _ zs' (by omega) hlt ?_ hz' ?_ ?_ ?_ ?_⟩
  ·exact W.frame (i + 1) s' h'' _ hst' (Nat.le_add_right _ _) fun b hb o e => by
    have ne : b ≠ S := by
     simp only [List.mem_cons, List.not_mem_nil, or_false] at hb; rcases hb with rfl | rfl
     ·exact Ne.symm hSI
     ·exact Ne.symm hSp
    exact (sb.2 b ne).trans e
  ·rw [List.take_succ, List.getElem?_eq_getElem hlt, Option.toList_some]
   by_cases c : l[i].1 ∈ zs.map (·.1)
   ·rw [hin c]
    refine ⟨fun z hzz => List.mem_append_left _ (hF.from_ z hzz), fun k => ?_⟩
    rw [hF.keys k, List.map_append, List.mem_append, List.map_cons, List.map_nil, List.mem_singleton]
    constructor
    ·exact .inl
    ·rintro (q | q)
     ·exact q
     ·subst q; exact (hF.keys _).mp c
   ·have pz := hnin c
    refine ⟨fun z hzz => ?_, fun k => ?_⟩
    ·rcases List.mem_cons.mp (pz.mem_iff.mp hzz) with q | q
     ·exact List.mem_append_right _ (by rw [q]; simp)
     ·exact List.mem_append_left _ (hF.from_ z q)
    ·rw [(pz.map (·.1)).mem_iff, List.map_cons, List.mem_cons, hF.keys k, List.map_append, List.mem_append, List.map_cons, List.map_nil, List.mem_singleton]
     constructor
     ·rintro (q | q)
      ·exact .inr q
      ·exact .inl q
     ·rintro (q | q)
      ·exact .inr q
      ·exact .inl q
  ·by_cases c : l[i].1 ∈ zs.map (·.1)
   ·rw [hin c]; omega
   ·rw [(hnin c).length_eq, List.length_cons]; omega
  ·intro x hx
   obtain ⟨⟨o1, it1, n1, a1, a2⟩, ⟨o2, it2, n2, b1, b2⟩, h3, h4⟩ := hl' x hx
   exact ⟨⟨o1, it1, n1, (sb.2 _ h4).trans a1, a2⟩, ⟨o2, it2, n2, (sb.2 _ h4).trans b1, b2⟩, h3, h4⟩
  ·intro s'' zs'' k2 g2 o2 d2 hz2 hf2
   exact hR s'' zs'' (fun b o hb hbI e => k2 b o hb hbI ((sb.2 b hb).trans (kp b o hbI e))) (g2.trans hm.gens) (o2.trans hm.os) (d2.trans hm.drawn) hz2 hf2
theorem upd_list {p S : Addr} {items : Array Value} {l : List (List K × Addr)} {led : Bool} {Q : Unit -> Shared -> Prop} (hh : A.handled = none) (hu : A.units + 4 < cLine) (hled : led = !(w.params.followText "set-order")) (hS : s.heap.get? S = some (xb5 led)) (hp : s.heap.IsList p items) (hi : items.toList = l.map fun x => Value.ref x.2) (hll : l.length <= 36)
  (htx : ∀ x ∈ l, IsTupleKey kn s.heap x.1 x.2 /\ xn0 s.heap x.2) (h : ∀ s' zs, (∀ b o, b ≠ S -> s.heap.get? b = some o -> s'.heap.get? b = some o) -> s'.gens = s.gens -> s'.os = s.os -> s'.drawn = s.drawn -> xd0 kn s'.heap S zs -> Firsts zs l -> Q () s') :
  wpAny (model prog w) A (Builtin.Frozenset.updateFrom "set.__init__" S (.ref p)) Q E s := by
 have hT := hp.typeIs
 have hp0 := hp
 obtain ⟨op, hop, hcp, np, hdp⟩ := hp
 have hlt := Heap.lt_size hop
 have hSlt := Heap.lt_size hS
 unfold Builtin.Frozenset.updateFrom Builtin.Frozenset.isAnySet
 have q1 := PySem.F.sub_list_set
 have q2 := PySem.F.sub_list_frozenset
 have q3 : (Value.type "list" == Value.type "dict") = false := by decide
 generalize hPI : pyIter = PI
 wp_walk
 subst hPI
 refine wpAny_pyIter_list hp0 ?_
 refine wpAny_bind (wpAny_runValue ?_); generalize hoi : ({ cls := Value.type "list_iterator", data := Data.fields #[Value.ref p, Value.int 0 0] } : Obj) = oI
 have k1 : ∀ b o, s.heap.get? b = some o -> (s.heap.push oI).get? b = some o := fun b o e => Heap.get?_push_of_some _ e
 have ne : ∀ b o, s.heap.get? b = some o -> b ≠ s.heap.objs.size := fun b o e => Nat.ne_of_lt (Heap.lt_size e)
 have hSp : S ≠ p := by
  rintro rfl
  rw [hS] at hop
  cases hop
  cases hdp
 have neS : ∀ x ∈ l, x.2 ≠ S := fun x hx z => by
  obtain ⟨⟨o1, it1, n1, a1, a2, a3, a4⟩, _⟩ := htx x hx
  rw [z, hS] at a1
  cases a1
  cases a3
 refine zd4 (kn := kn) (I := s.heap.objs.size) (p := p) (items := items) hi hh (by omega) (Nat.ne_of_lt hlt) (Nat.ne_of_lt hSlt) hSp hll l.length 0 { s with heap := s.heap.push oI } [] (by omega) (Nat.zero_le _) ⟨⟨oI, Heap.get?_push_size _ (by rw [<- hoi]; rfl), by rw [<- hoi], by rw [<- hoi]; rfl⟩, ⟨op, k1 _ _ hop, hcp, np, hdp⟩⟩ (yj8 hled (k1 _ _ hS)) ⟨fun z hz => by simp at hz, fun k => by simp⟩ (Nat.zero_le _) (fun x hx => ?_) fun s' zs' kp g o d hz hf => ?_
 ·obtain ⟨⟨o1, it1, n1, a1, a2⟩, ⟨o2, it2, n2, b1, b2⟩⟩ := htx x hx
  exact ⟨⟨o1, it1, n1, k1 _ _ a1, a2⟩, ⟨o2, it2, n2, k1 _ _ b1, b2⟩, ne _ _ a1, neS x hx⟩
 ·refine wpAny_pure ?_
  exact h s' zs' (fun b ob hb e => kp b ob hb (ne _ _ e) (k1 _ _ e)) g o d hz hf
end
end LS
namespace L2
open PySem PySem.Spec PyProof.Rows LS
def setO (P : Program) (w : World) (a : Addr) (zs : List (List Key × Addr)) : HO := .ext fun h => ∃ o es ep t, h.get? a = some o /\ o.ExactSet /\ o.data = .set es ep t /\ es.toList = (zs.map fun x => (tupleKeyHash (xd6 P w) x.1, Value.ref x.2)) /\ (zs.map (·.1)).Nodup /\
 Tab t (zs.map fun x => tupleKeyHash (xd6 P w) x.1) /\ zs.length * 5 < t.mask * 3 /\ yg2 w zs.length t
def xs5 (H : Hp) (zs : List (List Key × Addr)) : Prop := ∀ z ∈ zs, H z.2 = some (.tup (z.1.map kV))
def xm2 (k : List Key) : Prop := k ≠ [] /\ ∀ x ∈ k, ∃ y : Str, x = Sum.inr y
section
variable {X : Cx} {pins : List (Addr × Obj)} {σ : St} {H : Hp} {s : Shared}
theorem Inv.redrawn (I : Inv X pins σ H s) (d : Drawn) : Inv X pins σ H { s with drawn := d } := ⟨I.ok, I.os, I.bare, I.base, I.loc, I.cell, I.free, I.freeC, I.pin, I.hok, I.len⟩
theorem yl8 {P : Program} {w : World} {H' : Hp} {h : Heap} {a : Addr} {zs : List (List Key × Addr)} (x : xd0 (xd6 P w) h a zs) : xd4 P w H' h a (setO P w a zs) := by
 obtain ⟨o, es, ep, t, h1, h2, h3, S, h5⟩ := x
 refine ⟨⟨o, es, ep, t, h1, h2, h3, S.es, S.nd, S.tab, S.cap, h5⟩, ⟨o, h1⟩, fun g1 g2 ⟨o', es', ep', t', q1, q⟩ k => ⟨o', es', ep', t', k _ q1, q⟩⟩
theorem yd4 {P : Program} {w : World} {h : Heap} {a : Addr} {zs : List (List Key × Addr)} (ok : HOk P w H h) (e : H a = some (setO P w a zs)) (hk : xs5 H zs) : xd0 (xd6 P w) h a zs := by
 obtain ⟨o, es, ep, t, h1, h2, h3, h4, h5, h6, h7, h8⟩ := (ok _ _ e).1
 exact ⟨o, es, ep, t, h1, h2, h3, ⟨h4, fun x hx => yc3 ok (hk x hx), h5, h6, h7⟩, h8⟩
theorem yp0 : ∀ {k : List Key} {us : List Value}, Vals (k.map kV) us -> (∀ x ∈ k, ∃ y : Str, x = Sum.inr y) -> ∀ u ∈ us, ∃ y t, u = Value.str y t
 | [], _, r, _ => by rw [List.map_nil] at r; cases r; intro u hu; simp at hu
 | x :: k, _, r, h => by
  rw [List.map_cons] at r
  cases r with
  | cons h1 t1 =>
   intro u hu
   rcases List.mem_cons.mp hu with rfl | hu
   ·obtain ⟨y, rfl⟩ := h x (by simp)
    obtain ⟨t, e⟩ := (show ∃ t, u = Value.str y t from h1)
    exact ⟨y, t, e⟩
   ·exact yp0 t1 (fun z hz => h z (by simp [hz])) u hu
theorem xq2 {P : Program} {w : World} {h : Heap} {b : Addr} {k : List Key} (ok : HOk P w H h) (e : H b = some (.tup (k.map kV))) (hk : xm2 k) : xp3 h b /\ xn0 h b := by
 obtain ⟨_, its, r, o, h1, h2, n, h3⟩ := (show xd4 P w H h b (.tup (k.map kV)) from ok b _ e)
 have tx := yp0 r hk.2
 obtain ⟨u, us, rfl⟩ : ∃ u us, its = u :: us := by
  cases its with
  | nil => have := r.length; simp at this; exact absurd this hk.1
  | cons u us => exact ⟨u, us, rfl⟩
 obtain ⟨y, t, rfl⟩ := tx u (by simp)
 refine ⟨⟨o, y, t, us, n, h1, h2, h3, fun v hv => tx v (by simp [hv])⟩, ⟨o, _, n, h1, h2, h3, fun v hv => ?_, ?_⟩⟩
 ·obtain ⟨y', t', rfl⟩ := tx v (by simpa using hv)
  rfl
 ·simp [plainKind]
def rSetD : (P : Program) -> (w : World) -> List V -> Hp -> VK -> Prop := fun P w xs H Q => ∃ d kvs, xs = [V.ref d] /\ H d = some (.dT kvs) /\ kvs.length <= 36 /\ (∀ kv ∈ kvs, xm2 kv.1) /\
 ∀ p zs, H p = none -> (zs.map (·.1)).Perm (kvs.map (·.1)) -> xs5 H zs -> Q (.ref p) (upd H p (setO P w p zs))
theorem yk7 (hu : X.A.units + 64 < cLine) : xi1 X (.type "set") (rSetD X.prog X.w) := by
 intro pins s σ H xs us Q I r h
 obtain ⟨d, kvs, rfl, hd, hl, htk, q⟩ := h
 obtain ⟨u, rfl, rx⟩ := xq0 r
 cases rx
 obtain ⟨z1, z2, ys, rel, dd⟩ := dt_of I.hok hd
 have keys : ∀ {l : List (List Key × V)} {m : List (List Key × Addr × Value)}, KT H l m -> l.map (·.1) = m.map (·.1) /\ ∀ x ∈ m, H x.2.1 = some (.tup (x.1.map kV)) := by
  intro l m k
  induction k with
  | nil => exact ⟨rfl, fun x hx => by simp at hx⟩
  | @cons p q ps qs hq t ih =>
   refine ⟨by rw [List.map_cons, List.map_cons, hq.1, ih.1], fun x hx => ?_⟩; rcases List.mem_cons.mp hx with e | hx
   ·subst e; rw [<- hq.1]; exact hq.2.1
   ·exact ih.2 x hx
 obtain ⟨ke, kh⟩ := keys rel
 have tk : ∀ x ∈ ys, xm2 x.1 := fun x hx => by
  have : x.1 ∈ kvs.map (·.1) := by rw [ke]; exact List.mem_map.mpr ⟨x, hx, rfl⟩
  obtain ⟨kv, h1, h2⟩ := List.mem_map.mp this
  rw [<- h2]; exact htk kv h1
 have hlen : ys.length <= 36 := by rw [<- Paired.length rel]; exact hl
 refine yy4 fun led A' hled hA hH => ?_
 have k0 : ∀ b o, s.heap.get? b = some o -> (s.heap.push (xb5 led)).get? b = some o := fun b o e => Heap.get?_push_of_some _ e
 have hS : (s.heap.push (xb5 led)).get? s.heap.objs.size = some (xb5 led) := Heap.get?_push_size _ rfl
 have I0 : Inv X pins σ H { s with heap := s.heap.push (xb5 led) } := I.kept (t' := s.toks) k0
 obtain ⟨z1', z2', ys', rel', dd'⟩ := dt_of I0.hok hd
 obtain ⟨ke', kh'⟩ := keys rel'
 have tk' : ∀ x ∈ ys', xm2 x.1 := fun x hx => by
  have : x.1 ∈ kvs.map (·.1) := by rw [ke']; exact List.mem_map.mpr ⟨x, hx, rfl⟩
  obtain ⟨kv, h1, h2⟩ := List.mem_map.mp this
  rw [<- h2]; exact htk kv h1
 have hlen' : ys'.length <= 36 := by rw [<- Paired.length rel']; exact hl
 refine upd_dict (s := { s with heap := s.heap.push (xb5 led) }) (kn := xd6 X.prog X.w) (by omega) hled hS dd' z2' hlen' (fun x hx => (xq2 I0.hok (kh' x hx) (tk' x hx)).2) fun h' zs sb hz hp => ?_
 have keep := xs6 k0 (xj6 s.heap) sb
 refine ⟨.ref s.heap.objs.size, _, I.laid (t' := s.toks) keep (Nat.le_refl _) (yl8 hz), rfl, q _ zs (I.hok.fresh (Nat.le_refl _)) ?_ fun z hzz => ?_⟩
 ·rw [ke']
  have := hp.map (·.1)
  rw [List.map_map] at this
  exact this
 ·obtain ⟨x, hx, rfl⟩ := List.mem_map.mp (hp.mem_iff.mp hzz)
  exact kh' x hx
def rSetOr (P : Program) (w : World) : R2 := fun x y H Q => ∃ a b zs ws, x = V.ref a /\ y = V.ref b /\ H a = some (setO P w a zs) /\ H b = some (setO P w b ws) /\ a ≠ b /\ xs5 H zs /\ xs5 H ws /\ (∀ z ∈ zs, xm2 z.1) /\ (∀ z ∈ ws, xm2 z.1) /\ zs.length + ws.length <= 36 /\
 ∀ p vs, H p = none -> Both vs zs ws -> (vs.map (·.1)).Nodup -> Q (.ref p) (upd H p (setO P w p vs))
theorem op_setOr (hu : X.A.units + 64 < cLine) : OpR X (binaryOp .BitOr) (rSetOr X.prog X.w) := by
 intro pins s σ H x y v u Q I rx ry h
 obtain ⟨a, b, zs, ws, rfl, rfl, ha, hb, hab, ka, kb, ta, tb, hn, q⟩ := h
 cases rx
 cases ry
 have tx : ∀ {l : List (List Key × Addr)}, xs5 H l -> (∀ z ∈ l, xm2 z.1) -> ∀ y ∈ l, xn0 s.heap y.2 := fun k t y hy => (xq2 I.hok (k y hy) (t y hy)).2
 refine yy2 (by omega) (yd4 I.hok ha ka) (yd4 I.hok hb kb) hab (tx ka ta) (tx kb tb) hn fun h' d' vs keep hz bth => ?_
 refine ⟨.ref s.heap.objs.size, _, (I.redrawn d').laid (t' := s.toks) (h' := h') keep (Nat.le_refl _) (yl8 hz), rfl, q _ vs (I.hok.fresh (Nat.le_refl _)) bth ?_⟩
 obtain ⟨_, _, _, _, _, _, _, S, _⟩ := hz
 exact S.nd
def rSortS (P : Program) (w : World) : List V -> Hp -> VK -> Prop := fun xs H Q => ∃ a zs, xs = [V.ref a] /\ H a = some (setO P w a zs) /\ xs5 H zs /\ (∀ z ∈ zs, xm2 z.1) /\ zs.length < 64 /\ ∀ (p : Addr) (bs : List Addr), H p = none -> bs.Perm (zs.map (·.2)) -> Q (.ref p) (upd H p (.lst (bs.map V.ref)))
theorem refs_of : ∀ {vs : List Value} {bs : List Addr}, vs.Perm (bs.map Value.ref) -> ∃ cs : List Addr, vs = cs.map Value.ref /\ cs.Perm bs := fun h => xf3 h
theorem yg6 : ∀ cs : List Addr, Vals (cs.map V.ref) (cs.map Value.ref)
 | [] => .nil
 | c :: cs => .cons rfl (yg6 cs)
theorem yw1 (hc : X.calm = true) : xi1 X (.builtin "sorted") (rSortS X.prog X.w) := by
 intro pins s σ H xs us Q I r h
 obtain ⟨a, zs, rfl, ha, ka, ta, hn, q⟩ := h
 obtain ⟨u, rfl, rx⟩ := xq0 r
 cases rx
 refine ys4 (I.ok.hd hc) (yd4 I.hok ha ka) (fun x hx => (xq2 I.hok (ka x hx) (ta x hx)).1) hn fun s' l out e keep hg hos hl hol hp => ?_
 rw [show (zs.map fun x => Value.ref x.2) = (zs.map (·.2)).map Value.ref by rw [List.map_map]; rfl] at hp
 obtain ⟨bs, eb, pb⟩ := refs_of hp
 have hlen : bs.length = zs.length := by rw [pb.length_eq, List.length_map]
 have I1 : Inv X pins σ (upd H l (.lst (bs.map V.ref))) { s with heap := s'.heap, toks := s'.toks } := I.laid (t' := s'.toks) keep hl ⟨xd7 (by rw [List.length_map, hlen]; omega), bs.map Value.ref, e, yg6 bs, by
  rw [hol]
  have : out = (bs.map Value.ref).toArray := by rw [<- eb]
  rw [this]⟩
 have es : s' = { ({ s with heap := s'.heap, toks := s'.toks } : Shared) with drawn := s'.drawn } := by
  cases s'
  simp only at hg hos ⊢
  rw [hg, hos]
 refine ⟨.ref l, _, ?_, rfl, q l bs (I.hok.fresh hl) pb⟩
 rw [es]
 exact I1.redrawn _
theorem ze8 : xi1 X (.builtin "len") (fun xs H Q => ∃ a zs, xs = [V.ref a] /\ H a = some (setO X.prog X.w a zs) /\ xs5 H zs /\ Q (.int zs.length) H) := by
 intro pins s σ H xs us Q I r h
 obtain ⟨a, zs, rfl, ha, ka, q⟩ := h
 obtain ⟨u, rfl, rx⟩ := xq0 r
 cases rx
 obtain ⟨o, es, ep, t, h1, h2, h3, S, h5⟩ := yd4 I.hok ha ka
 have hs := S.size
 have small : es.size < 128 := by
  have := S.cap
  rcases S.tab.mask with z | z | z | z | z <;> omega
 refine call_len_set h1 h2 h3 S.fits (by omega) ⟨.int zs.length, H, I.tok _, ⟨s.toks + 1, by rw [hs]⟩, q⟩
end
theorem xs0 : bootBuiltins "set" = Option.some (Value.type "set") := by decide +kernel
end L2
namespace LS
open PySem
section
variable {w : World} {prog : Program} {A : Around} {E : Value -> Shared -> Prop} {s : Shared}
def RawD (h : Heap) (d : Addr) (es : Array DictEntry) (ep : Nat) : Prop := ∃ o, h.get? d = some o /\ o.ExactDict /\ o.data = .dict es ep
theorem RawD.typeIs {d : Addr} {es : Array DictEntry} {ep : Nat} (x : RawD s.heap d es ep) : s.TypeIs (.ref d) "dict" := let ⟨o, a, b, _⟩ := x; ⟨o, a, b.1⟩
theorem RawD.keep {h h' : Heap} {d : Addr} {es : Array DictEntry} {ep : Nat} (x : RawD h d es ep) (k : ∀ o, h.get? d = some o -> h'.get? d = some o) : RawD h' d es ep := let ⟨o, a, b⟩ := x; ⟨o, k o a, b⟩
theorem iter_raw {d : Addr} {es : Array DictEntry} {ep : Nat} {Q : Value -> Shared -> Prop} (hd : (d == sysModules) = false) (hm : RawD s.heap d es ep)
  (hQ : Q (.ref s.heap.objs.size) { s with heap := s.heap.push { cls := .type "dict_keyiterator", data := .fields #[.ref d, .int 0 0, .int es.size 0, .int ep 0] } }) : wpAny (model prog w) A (pyIter (.ref d)) Q E s := by
 have hT := hm.typeIs
 obtain ⟨o, ho, hc, hdat⟩ := hm
 refine wpAny_pyIter_slot hT F.slot_dict_iter (wpAny_call_entry F.slot_dict_iter hT F.entry_dict_iter ?_ (F.args_dict_iter_1 _)); unfold Builtin.«dict.__iter__» Builtin.Dict.dictSlotNone
 refine wpAny_bind (wpAny_bind (wpAny_notOrdered_dict hT ?_))
 show wpAny _ _ (pure (Value.ref d)) _ _ s; refine wpAny_pure ?_
 show wpAny _ _ (Builtin.Dict.showsAll d >>= _) _ _ s; unfold Builtin.Dict.showsAll
 rw [hd, if_neg Bool.false_ne_true]
 refine wpAny_bind (wpAny_pure (wpAny_bind (wpAny_dictEntries ho hdat (wpAny_bind (wpAny_dictEpoch ho hdat ?_)))))
 exact wpAny_bind (wpAny_newObj_type (wpAny_pure ⟨_, rfl, "dict_keyiterator", _, ⟨_, Heap.get?_push_size _ rfl, rfl⟩, F.slot_dict_keyiterator_next.lookup, hQ⟩))
theorem next_key {it d : Addr} {i ep : Nat} {es : Array DictEntry} {e : DictEntry} {Q : Option Value -> Shared -> Prop} (hit : s.heap.IsKeyIter it d i es.size ep) (hm : RawD s.heap d es ep) (hx : es[i]? = some e)
  (hQ : ∀ h', h'.IsKeyIter it d (i + 1) es.size ep -> Heap.SameBut it s.heap h' -> Q (some e.key) { s with heap := h' }) : wpAny (model prog w) A (pyNext (.ref it)) Q E s := by
 have hT := hit.typeIs
 obtain ⟨o, ho, hc, hd⟩ := id hit; obtain ⟨od, hod, hcd, hdd⟩ := hm
 unfold pyNext
 refine wpAny_bind (wpAny_attempt (wpAny_callSpecial?_slot (name := Str.ofString "__next__") hT F.slot_dict_keyiterator_next (wpAny_call_entry F.slot_dict_keyiterator_next hT F.entry_dict_keyiterator_next ?_ (F.args_dict_keyiterator_next_1 _))))
 refine wpAny_bind (wpAny_pure (wpAny_bind (wpAny_bind (wpAny_bind (wpAny_typeNameOfWhole_keyiter hT (wpAny_pure (wpAny_bind (wpAny_fieldsOf ho hd ?_))))))))
 simp only [show Builtin.Dict_items.ownsTuple "dict_keyiterator" = false from by decide, Bool.false_eq_true, if_false]
 show wpAny _ _ (if (Value.ref d == Value.none) = true then _ else _) _ _ s; rw [show (Value.ref d == Value.none) = false from rfl, if_neg Bool.false_ne_true]
 refine wpAny_bind (wpAny_pure (wpAny_bind (wpAny_dictEntries hod hdd ?_)))
 rw [if_neg (by simp)]
 refine wpAny_bind (wpAny_pure (wpAny_bind (wpAny_dictEpoch hod hdd ?_)))
 rw [if_neg (by simp)]
 have hlt : i < es.size := (Array.getElem?_eq_some_iff.mp hx).1
 have he : es[i] = e := (Array.getElem?_eq_some_iff.mp hx).2
 refine wpAny_pure ?_
 simp only [show ¬ ((i : Int) < 0) from by omega, if_false, Int.toNat_natCast, hx]
 refine wpAny_bind (wpAny_bind (wpAny_typeNameOfWhole_keyiter hT (wpAny_pure (wpAny_bind (wpAny_isOneOf_keyiter hT ?_)))))
 show wpAny _ _ (setField (.ref it) 1 (rawInt ((i : Int) + 1)) >>= _) _ _ s; refine wpAny_bind (wpAny_setField ho hd (by simp) ?_)
 generalize hh : s.heap.update it (Obj.mapFields (·.setIfInBounds 1 (rawInt ((i : Int) + 1)))) = h1
 have hit' : h1.IsKeyIter it d (i + 1) es.size ep := ⟨_, by rw [<- hh]; exact Heap.get?_update_self _ ho (Obj.isFreed_of_fields (Obj.data_mapFields hd _)), (Obj.cls_mapFields ..).trans hc, by rw [Obj.data_mapFields hd]; simp [rawInt]⟩
 have sb : Heap.SameBut it s.heap h1 := by rw [<- hh]; exact Heap.SameBut.update ..
 have hT1 : Shared.TypeIs { s with heap := h1 } (.ref it) "dict_keyiterator" := hit'.typeIs
 refine wpAny_bind (wpAny_holding (wpAny_bind (wpAny_isOneOf_keyiter hT1 ?_)))
 show wpAny _ _ (pure e.key) _ _ _; exact wpAny_pure (wpAny_pure ⟨_, rfl, wpAny_pure (hQ h1 hit' sb)⟩)
theorem end_key {it d : Addr} {i ep : Nat} {es : Array DictEntry} {Q : Option Value -> Shared -> Prop} (hh : A.handled = none) (hit : s.heap.IsKeyIter it d i es.size ep) (hm : RawD s.heap d es ep) (hx : es.size <= i) (hQ : ∀ h', Heap.ExtBut it s.heap h' -> Q none { s with heap := h' }) : wpAny (model prog w) A (pyNext (.ref it)) Q E s := by
 have hT := hit.typeIs
 obtain ⟨o, ho, hc, hd⟩ := id hit; obtain ⟨od, hod, hcd, hdd⟩ := hm
 unfold pyNext
 refine wpAny_bind (wpAny_attempt (wpAny_callSpecial?_slot (name := Str.ofString "__next__") hT F.slot_dict_keyiterator_next (wpAny_call_entry F.slot_dict_keyiterator_next hT F.entry_dict_keyiterator_next ?_ (F.args_dict_keyiterator_next_1 _))))
 refine wpAny_bind (wpAny_pure (wpAny_bind (wpAny_bind (wpAny_bind (wpAny_typeNameOfWhole_keyiter hT (wpAny_pure (wpAny_bind (wpAny_fieldsOf ho hd ?_))))))))
 simp only [show Builtin.Dict_items.ownsTuple "dict_keyiterator" = false from by decide, Bool.false_eq_true, if_false]
 show wpAny _ _ (if (Value.ref d == Value.none) = true then _ else _) _ _ s; rw [show (Value.ref d == Value.none) = false from rfl, if_neg Bool.false_ne_true]
 refine wpAny_bind (wpAny_pure (wpAny_bind (wpAny_dictEntries hod hdd ?_)))
 rw [if_neg (by simp)]
 refine wpAny_bind (wpAny_pure (wpAny_bind (wpAny_dictEpoch hod hdd ?_)))
 rw [if_neg (by simp)]
 refine wpAny_pure ?_
 simp only [show ¬ ((i : Int) < 0) from by omega, if_false, Int.toNat_natCast, Array.getElem?_eq_none hx]
 refine wpAny_bind (wpAny_bind (wpAny_typeNameOfWhole_keyiter hT (wpAny_pure ?_)))
 show wpAny _ _ (setField (.ref it) 0 .none >>= _) _ _ s; refine wpAny_bind (wpAny_setField ho hd (by simp) ?_)
 show wpAny _ _ (newExc (.type "StopIteration") [] >>= _) _ _ _; refine wpAny_bind ?_
 simp only [newExc, newTuple]; refine wpAny_bind (wpAny_newObj_type ?_ (by size_fits))
 refine wpAny_bind (m := firstArgMember _ _) (wpAny_of_eq (a := Value.none) (by first | rfl | (simp only [firstArgMember]; rfl)) (wpAny_newObj_type ?_ (by size_fits)))
 simp only [raiseNew]; refine wpAny_bind (wpAny_handled ?_); rw [show A.in1.handled = none from hh]
 refine wpAny_bind (wpAny_pure (wpAny_throw ?_)); refine wpAny_bind (wpAny_isInstance (b := true) (T := "StopIteration") ⟨_, Heap.get?_push_size _ rfl, rfl⟩ isSubtype_stop (wpAny_pure ?_))
 exact hQ _ (((Heap.SameBut.update ..).extBut.push _).push _)
theorem next_val {it d : Addr} {i ep : Nat} {es : Array DictEntry} {e : DictEntry} {Q : Option Value -> Shared -> Prop} (hit : s.heap.IsValIter it d i es.size ep) (hm : RawD s.heap d es ep) (hx : es[i]? = some e)
  (hQ : ∀ h', h'.IsValIter it d (i + 1) es.size ep -> Heap.SameBut it s.heap h' -> Q (some e.val) { s with heap := h' }) : wpAny (model prog w) A (pyNext (.ref it)) Q E s := by
 have hT := hit.typeIs
 obtain ⟨o, ho, hc, hd⟩ := id hit; obtain ⟨od, hod, hcd, hdd⟩ := hm
 unfold pyNext
 refine wpAny_bind (wpAny_attempt (wpAny_callSpecial?_slot (name := Str.ofString "__next__") hT F.slot_dict_valueiterator_next (wpAny_call_entry F.slot_dict_valueiterator_next hT F.entry_dict_valueiterator_next ?_ (F.args_dict_valueiterator_next_1 _))))
 refine wpAny_bind (wpAny_pure (wpAny_bind (wpAny_bind (wpAny_bind (wpAny_typeNameOfWhole_valiter hT (wpAny_pure (wpAny_bind (wpAny_fieldsOf ho hd ?_))))))))
 simp only [show Builtin.Dict_items.ownsTuple "dict_valueiterator" = false from by decide, Bool.false_eq_true, if_false]
 show wpAny _ _ (if (Value.ref d == Value.none) = true then _ else _) _ _ s; rw [show (Value.ref d == Value.none) = false from rfl, if_neg Bool.false_ne_true]
 refine wpAny_bind (wpAny_pure (wpAny_bind (wpAny_dictEntries hod hdd ?_)))
 rw [if_neg (by simp)]
 refine wpAny_bind (wpAny_pure (wpAny_bind (wpAny_dictEpoch hod hdd ?_)))
 rw [if_neg (by simp)]
 have hlt : i < es.size := (Array.getElem?_eq_some_iff.mp hx).1
 have he : es[i] = e := (Array.getElem?_eq_some_iff.mp hx).2
 refine wpAny_pure ?_
 simp only [show ¬ ((i : Int) < 0) from by omega, if_false, Int.toNat_natCast, hx]
 refine wpAny_bind (wpAny_bind (wpAny_typeNameOfWhole_valiter hT (wpAny_pure (wpAny_bind (wpAny_isOneOf_valiter hT ?_)))))
 show wpAny _ _ (setField (.ref it) 1 (rawInt ((i : Int) + 1)) >>= _) _ _ s; refine wpAny_bind (wpAny_setField ho hd (by simp) ?_)
 generalize hh : s.heap.update it (Obj.mapFields (·.setIfInBounds 1 (rawInt ((i : Int) + 1)))) = h1
 have hit' : h1.IsValIter it d (i + 1) es.size ep := ⟨_, by rw [<- hh]; exact Heap.get?_update_self _ ho (Obj.isFreed_of_fields (Obj.data_mapFields hd _)), (Obj.cls_mapFields ..).trans hc, by rw [Obj.data_mapFields hd]; simp [rawInt]⟩
 have sb : Heap.SameBut it s.heap h1 := by rw [<- hh]; exact Heap.SameBut.update ..
 have hT1 : Shared.TypeIs { s with heap := h1 } (.ref it) "dict_valueiterator" := hit'.typeIs
 refine wpAny_bind (wpAny_holding (wpAny_bind (wpAny_isOneOf_valiter hT1 (wpAny_bind (wpAny_isOneOf_valiter hT1 ?_)))))
 show wpAny _ _ (pure e.val) _ _ _; exact wpAny_pure (wpAny_pure ⟨_, rfl, wpAny_pure (hQ h1 hit' sb)⟩)
theorem end_val {it d : Addr} {i ep : Nat} {es : Array DictEntry} {Q : Option Value -> Shared -> Prop} (hh : A.handled = none) (hit : s.heap.IsValIter it d i es.size ep) (hm : RawD s.heap d es ep) (hx : es.size <= i) (hQ : ∀ h', Heap.ExtBut it s.heap h' -> Q none { s with heap := h' }) : wpAny (model prog w) A (pyNext (.ref it)) Q E s := by
 have hT := hit.typeIs
 obtain ⟨o, ho, hc, hd⟩ := id hit; obtain ⟨od, hod, hcd, hdd⟩ := hm
 unfold pyNext
 refine wpAny_bind (wpAny_attempt (wpAny_callSpecial?_slot (name := Str.ofString "__next__") hT F.slot_dict_valueiterator_next (wpAny_call_entry F.slot_dict_valueiterator_next hT F.entry_dict_valueiterator_next ?_ (F.args_dict_valueiterator_next_1 _))))
 refine wpAny_bind (wpAny_pure (wpAny_bind (wpAny_bind (wpAny_bind (wpAny_typeNameOfWhole_valiter hT (wpAny_pure (wpAny_bind (wpAny_fieldsOf ho hd ?_))))))))
 simp only [show Builtin.Dict_items.ownsTuple "dict_valueiterator" = false from by decide, Bool.false_eq_true, if_false]
 show wpAny _ _ (if (Value.ref d == Value.none) = true then _ else _) _ _ s; rw [show (Value.ref d == Value.none) = false from rfl, if_neg Bool.false_ne_true]
 refine wpAny_bind (wpAny_pure (wpAny_bind (wpAny_dictEntries hod hdd ?_)))
 rw [if_neg (by simp)]
 refine wpAny_bind (wpAny_pure (wpAny_bind (wpAny_dictEpoch hod hdd ?_)))
 rw [if_neg (by simp)]
 refine wpAny_pure ?_
 simp only [show ¬ ((i : Int) < 0) from by omega, if_false, Int.toNat_natCast, Array.getElem?_eq_none hx]
 refine wpAny_bind (wpAny_bind (wpAny_typeNameOfWhole_valiter hT (wpAny_pure ?_)))
 show wpAny _ _ (setField (.ref it) 0 .none >>= _) _ _ s; refine wpAny_bind (wpAny_setField ho hd (by simp) ?_)
 show wpAny _ _ (newExc (.type "StopIteration") [] >>= _) _ _ _; refine wpAny_bind ?_
 simp only [newExc, newTuple]; refine wpAny_bind (wpAny_newObj_type ?_ (by size_fits))
 refine wpAny_bind (m := firstArgMember _ _) (wpAny_of_eq (a := Value.none) (by first | rfl | (simp only [firstArgMember]; rfl)) (wpAny_newObj_type ?_ (by size_fits)))
 simp only [raiseNew]; refine wpAny_bind (wpAny_handled ?_); rw [show A.in1.handled = none from hh]
 refine wpAny_bind (wpAny_pure (wpAny_throw ?_)); refine wpAny_bind (wpAny_isInstance (b := true) (T := "StopIteration") ⟨_, Heap.get?_push_size _ rfl, rfl⟩ isSubtype_stop (wpAny_pure ?_))
 exact hQ _ (((Heap.SameBut.update ..).extBut.push _).push _)
theorem vals_raw {d : Addr} {es : Array DictEntry} {ep : Nat} {Q : Value -> Shared -> Prop} (hd : (d == sysModules) = false) (hm : RawD s.heap d es ep)
  (h : Q (.ref s.heap.objs.size) { s with heap := s.heap.push { cls := .type "dict_values", data := .fields #[.ref d] } }) : wpAny (model prog w) A (call (.builtin "dict.values") [.ref d]) Q E s := by
 have hT := hm.typeIs
 refine wpAny_call_entry F.slot_dict_values hT F.entry_dict_values ?_ (F.args_dict_values_1 _)
 refine wpAny_bind ?_; unfold Builtin.Dict.noArgs; refine wpAny_bind (wpAny_notOrdered_dict hT ?_); show wpAny _ _ (pure d) _ _ s
 refine wpAny_pure ?_
 show wpAny _ _ (Builtin.Dict.showsAll d >>= _) _ _ s; unfold Builtin.Dict.showsAll
 rw [hd, if_neg Bool.false_ne_true]
 exact wpAny_bind (wpAny_pure (wpAny_bind (wpAny_newObj_type (wpAny_pure ⟨_, rfl, h⟩))))
theorem zc2 {d : Addr} {es : Array DictEntry} {ep : Nat} {Q : Value -> Shared -> Prop} (hd : (d == sysModules) = false) (hm : RawD s.heap d es ep)
  (h : Q (.ref s.heap.objs.size) { s with heap := s.heap.push { cls := .type "dict_items", data := .fields #[.ref d] } }) : wpAny (model prog w) A (call (.builtin "dict.items") [.ref d]) Q E s := by
 have hT := hm.typeIs
 refine wpAny_call_entry F.slot_dict_items hT F.entry_dict_items ?_ (F.args_dict_items_1 _)
 unfold Builtin.«dict.items» Builtin.Dict.noArgs
 refine wpAny_bind (wpAny_bind (wpAny_notOrdered_dict hT ?_)); show wpAny _ _ (pure d) _ _ s
 refine wpAny_pure ?_
 show wpAny _ _ (Builtin.Dict.showsAll d >>= _) _ _ s; unfold Builtin.Dict.showsAll
 rw [hd, if_neg Bool.false_ne_true]
 exact wpAny_bind (wpAny_pure (wpAny_bind (wpAny_newObj_type (wpAny_pure ⟨_, rfl, h⟩))))
theorem yv1 {v d : Addr} {es : Array DictEntry} {ep : Nat} {Q : Value -> Shared -> Prop} (hv : s.heap.IsItemsView v d) (hm : RawD s.heap d es ep)
  (hQ : Q (.ref s.heap.objs.size) { s with heap := s.heap.push { cls := .type "dict_itemiterator", data := .fields #[.none, .bool false, .ref d, .int 0 0, .int es.size 0, .int ep 0, .none, .none] } }) : wpAny (model prog w) A (pyIter (.ref v)) Q E s := by
 have hT := hv.typeIs
 obtain ⟨ov, hov, hcv, hdv⟩ := hv
 obtain ⟨o, ho, hc, hdat⟩ := hm
 refine wpAny_pyIter_slot hT F.slot_dict_items_iter (wpAny_call_entry F.slot_dict_items_iter hT F.entry_dict_items_iter ?_ (F.args_dict_items_iter_1 _))
 unfold Builtin.«dict_items.__iter__» Builtin.Dict_items.dictOf
 refine wpAny_bind (wpAny_pure (wpAny_bind (wpAny_bind (wpAny_field hov hdv (x := .ref d) rfl (wpAny_pure (wpAny_bind ?_))))))
 unfold Builtin.Dict_items.newIterator; refine wpAny_bind (wpAny_dictEntries ho hdat (wpAny_bind (wpAny_dictEpoch ho hdat ?_)))
 simp only [show Builtin.Dict_items.ownsTuple "dict_itemiterator" = true from by decide, if_true]
 refine wpAny_newObj_type (wpAny_pure ⟨_, rfl, "dict_itemiterator", _, ⟨_, Heap.get?_push_size _ rfl, rfl⟩, F.slot_dict_itemiterator_next.lookup, ?_⟩) (by simp only [sizeOk, Builtin.Dict_items.ownedTupleFields, List.size_toArray, List.length_append, List.length_cons, List.length_nil, sizeLine_eq]; omega)
 exact hQ
theorem yu3 {it d : Addr} {i ep : Nat} {es : Array DictEntry} {e : DictEntry} {ok ov : Value} {Q : Option Value -> Shared -> Prop} (hit : IsItemIter s.heap it d i es.size ep ok ov) (hm : RawD s.heap d es ep) (hx : es[i]? = some e)
  (hQ : ∀ h', IsItemIterOut h' it d (i + 1) es.size ep e.key e.val s.heap.objs.size -> h'.get? s.heap.objs.size = some { cls := .type "tuple", data := .seq #[e.key, e.val] } -> h'.objs.size = s.heap.objs.size + 1 -> (∀ b o, b ≠ it -> s.heap.get? b = some o -> h'.get? b = some o) -> Q (some (.ref s.heap.objs.size)) { s with heap := h' }) : wpAny (model prog w) A (pyNext (.ref it)) Q E s := by
 have hT : s.TypeIs (.ref it) "dict_itemiterator" := ⟨_, hit, rfl⟩; obtain ⟨od, hod, hcd, hdd⟩ := hm
 unfold pyNext
 refine wpAny_bind (wpAny_attempt (wpAny_callSpecial?_slot (name := Str.ofString "__next__") hT F.slot_dict_itemiterator_next (wpAny_call_entry F.slot_dict_itemiterator_next hT F.entry_dict_itemiterator_next ?_ (F.args_dict_itemiterator_next_1 _))))
 refine wpAny_bind (wpAny_pure (wpAny_bind (wpAny_bind (wpAny_bind (wpAny_typeNameOfWhole_itemiter hT (wpAny_pure (wpAny_bind (wpAny_fieldsOf hit rfl ?_))))))))
 simp only [show Builtin.Dict_items.ownsTuple "dict_itemiterator" = true from by decide, if_true]
 show wpAny _ _ (if (Value.ref d == Value.none) = true then _ else _) _ _ s; rw [show (Value.ref d == Value.none) = false from rfl, if_neg Bool.false_ne_true]
 refine wpAny_bind (wpAny_pure (wpAny_bind (wpAny_dictEntries hod hdd ?_)))
 rw [if_neg (by simp)]
 refine wpAny_bind (wpAny_pure (wpAny_bind (wpAny_dictEpoch hod hdd ?_)))
 rw [if_neg (by simp)]
 refine wpAny_pure ?_
 simp only [show ¬ ((i : Int) < 0) from by omega, if_false, Int.toNat_natCast, hx]
 refine wpAny_bind (wpAny_bind (wpAny_typeNameOfWhole_itemiter hT (wpAny_pure (wpAny_bind (wpAny_isOneOf_itemiter hT ?_)))))
 show wpAny _ _ (setField (.ref it) 3 (rawInt ((i : Int) + 1)) >>= _) _ _ s
 refine wpAny_bind (wpAny_setField_rec hit (by simp) fun h1 q1 sb1 => ?_)
 have e1 : IsItemIter h1 it d (i + 1) es.size ep ok ov := by
  show h1.get? it = _
  rw [show ((i + 1 : Nat) : Int) = (i : Int) + 1 from by omega]; simpa [rawInt] using q1
 have sb1 : Heap.SameBut it s.heap h1 := sb1
 have hT1 : Shared.TypeIs { s with heap := h1 } (.ref it) "dict_itemiterator" := ⟨_, e1, rfl⟩
 refine wpAny_bind (wpAny_holding (wpAny_bind (wpAny_isOneOf_itemiter hT1 (wpAny_bind (wpAny_isOneOf_itemiter hT1 ?_)))))
 show wpAny _ _ (Builtin.Dict_items.pairFromOwner (.ref it) 6 e.key e.val) _ _ { s with heap := h1 }
 unfold Builtin.Dict_items.pairFromOwner Builtin.Dict_items.ownedTupleIsFree
 refine wpAny_bind (wpAny_newTuple ?_); have e2 : IsItemIter (h1.push { cls := .type "tuple", data := .seq #[e.key, e.val] }) it d (i + 1) es.size ep ok ov := Heap.get?_push_of_some _ e1
 have z1 : h1.objs.size = s.heap.objs.size := sb1.1
 have t2 : (h1.push { cls := .type "tuple", data := .seq #[e.key, e.val] }).get? s.heap.objs.size = some { cls := .type "tuple", data := .seq #[e.key, e.val] } := by rw [<- z1]; exact Heap.get?_push_size _ rfl
 have z2 : (h1.push { cls := .type "tuple", data := .seq #[e.key, e.val] }).objs.size = s.heap.objs.size + 1 := by rw [Heap.size_push, z1]
 have k2 : ∀ b o, b ≠ it -> s.heap.get? b = some o -> (h1.push { cls := .type "tuple", data := .seq #[e.key, e.val] }).get? b = some o := fun b o hb x => Heap.get?_push_of_some _ (sb1.extBut b o hb x)
 generalize hh2 : h1.push { cls := .type "tuple", data := .seq #[e.key, e.val] } = h2 at e2 t2 z2 k2
 have ne : s.heap.objs.size ≠ it := Nat.ne_of_gt (Heap.lt_size hit)
 dsimp only
 rw [z1]
 refine wpAny_bind (wpAny_bind (wpAny_field e2 rfl (x := .none) rfl (wpAny_pure ?_)))
 simp only [if_true]
 refine wpAny_bind (wpAny_field e2 rfl (x := ok) rfl (wpAny_bind (wpAny_field e2 rfl (x := ov) rfl ?_)))
 refine wpAny_bind (wpAny_setField_rec e2 (by simp) fun h3 q3 sb3 => ?_)
 have e3 : IsItemIter h3 it d (i + 1) es.size ep e.key ov := q3
 refine wpAny_bind (wpAny_setField_rec e3 (by simp) fun h4 q4 sb4 => ?_)
 have e4 : IsItemIter h4 it d (i + 1) es.size ep e.key e.val := q4
 refine wpAny_bind (wpAny_setField_rec e4 (by simp) fun h5 q5 sb5 => ?_)
 have e5 : IsItemIterOut h5 it d (i + 1) es.size ep e.key e.val s.heap.objs.size := q5
 refine wpAny_bind (wpAny_setField_rec e5 (by simp) fun h6 q6 sb6 => ?_)
 have all : Heap.SameBut it h2 h6 := ((sb3.trans sb4).trans sb5).trans sb6
 refine wpAny_bind (wpAny_letGo (wpAny_pure (wpAny_pure ⟨_, rfl, wpAny_pure (hQ h6 q6 (all.extBut _ _ ne t2) ?_ fun b o hb x => all.extBut b o hb (k2 b o hb x))⟩)))
 exact all.1.trans z2
theorem zd8 {it d : Addr} {i ep : Nat} {es : Array DictEntry} {ok ov : Value} {Q : Option Value -> Shared -> Prop} (hh : A.handled = none) (hit : IsItemIter s.heap it d i es.size ep ok ov) (hm : RawD s.heap d es ep) (hx : es.size <= i) (hQ : ∀ h', Heap.ExtBut it s.heap h' -> Q none { s with heap := h' }) : wpAny (model prog w) A (pyNext (.ref it)) Q E s := by
 have hT : s.TypeIs (.ref it) "dict_itemiterator" := ⟨_, hit, rfl⟩; obtain ⟨od, hod, hcd, hdd⟩ := hm
 unfold pyNext
 refine wpAny_bind (wpAny_attempt (wpAny_callSpecial?_slot (name := Str.ofString "__next__") hT F.slot_dict_itemiterator_next (wpAny_call_entry F.slot_dict_itemiterator_next hT F.entry_dict_itemiterator_next ?_ (F.args_dict_itemiterator_next_1 _))))
 refine wpAny_bind (wpAny_pure (wpAny_bind (wpAny_bind (wpAny_bind (wpAny_typeNameOfWhole_itemiter hT (wpAny_pure (wpAny_bind (wpAny_fieldsOf hit rfl ?_))))))))
 simp only [show Builtin.Dict_items.ownsTuple "dict_itemiterator" = true from by decide, if_true]
 show wpAny _ _ (if (Value.ref d == Value.none) = true then _ else _) _ _ s; rw [show (Value.ref d == Value.none) = false from rfl, if_neg Bool.false_ne_true]
 refine wpAny_bind (wpAny_pure (wpAny_bind (wpAny_dictEntries hod hdd ?_)))
 rw [if_neg (by simp)]
 refine wpAny_bind (wpAny_pure (wpAny_bind (wpAny_dictEpoch hod hdd ?_)))
 rw [if_neg (by simp)]
 refine wpAny_pure ?_
 simp only [show ¬ ((i : Int) < 0) from by omega, if_false, Int.toNat_natCast, Array.getElem?_eq_none hx]
 refine wpAny_bind (wpAny_bind (wpAny_typeNameOfWhole_itemiter hT (wpAny_pure ?_)))
 show wpAny _ _ (setField (.ref it) 2 .none >>= _) _ _ s; refine wpAny_bind (wpAny_setField hit rfl (by simp) ?_)
 show wpAny _ _ (newExc (.type "StopIteration") [] >>= _) _ _ _; refine wpAny_bind ?_
 simp only [newExc, newTuple]; refine wpAny_bind (wpAny_newObj_type ?_ (by size_fits))
 refine wpAny_bind (m := firstArgMember _ _) (wpAny_of_eq (a := Value.none) (by first | rfl | (simp only [firstArgMember]; rfl)) (wpAny_newObj_type ?_ (by size_fits)))
 simp only [raiseNew]; refine wpAny_bind (wpAny_handled ?_); rw [show A.in1.handled = none from hh]
 refine wpAny_bind (wpAny_pure (wpAny_throw ?_)); refine wpAny_bind (wpAny_isInstance (b := true) (T := "StopIteration") ⟨_, Heap.get?_push_size _ rfl, rfl⟩ isSubtype_stop (wpAny_pure ?_))
 exact hQ _ (((Heap.SameBut.update ..).extBut.push _).push _)
theorem zc1 {v d : Addr} {es : Array DictEntry} {ep : Nat} {Q : Value -> Shared -> Prop} (hv : s.heap.IsValuesView v d) (hm : RawD s.heap d es ep)
  (hQ : Q (.ref s.heap.objs.size) { s with heap := s.heap.push { cls := .type "dict_valueiterator", data := .fields #[.ref d, .int 0 0, .int es.size 0, .int ep 0] } }) : wpAny (model prog w) A (pyIter (.ref v)) Q E s := by
 have hT := hv.typeIs
 obtain ⟨ov, hov, hcv, hdv⟩ := hv
 obtain ⟨o, ho, hc, hdat⟩ := hm
 refine wpAny_pyIter_slot hT F.slot_dict_values_iter (wpAny_call_entry F.slot_dict_values_iter hT F.entry_dict_values_iter ?_ (F.args_dict_values_iter_1 _))
 unfold Builtin.«dict_values.__iter__» Builtin.Dict_items.dictOf
 refine wpAny_bind (wpAny_pure (wpAny_bind (wpAny_bind (wpAny_field hov hdv (x := .ref d) rfl (wpAny_pure (wpAny_bind ?_))))))
 unfold Builtin.Dict_items.newIterator; refine wpAny_bind (wpAny_dictEntries ho hdat (wpAny_bind (wpAny_dictEpoch ho hdat ?_)))
 simp only [show Builtin.Dict_items.ownsTuple "dict_valueiterator" = false from by decide, Bool.false_eq_true, if_false]
 exact wpAny_newObj_type (wpAny_pure ⟨_, rfl, "dict_valueiterator", _, ⟨_, Heap.get?_push_size _ rfl, rfl⟩, F.slot_dict_valueiterator_next.lookup, hQ⟩)
end
end LS
namespace L2
open PySem PySem.Spec PyProof.Rows LS
def held (d : Addr) (o : Obj) : HO := .ext fun h => h.get? d = some o
def yw4 (n : String) (a d : Addr) : HO := .ext fun h => ∃ o, h.get? a = some o /\ o.cls = .type n /\ o.data = .fields #[.ref d]
structure DIs (P : Program) (w : World) (d : Addr) (o : Obj) (kvs : List (List Key × V)) (xs : List (List Key × Addr × Value)) (es : Array DictEntry) (ep : Nat) : Prop where
 len : kvs.length <= sizeLine
 sys : (d == sysModules) = false
 ex : o.ExactDict
 data : o.data = .dict es ep
 es : es.toList = xs.map (entryOfKey (tupleKind (xd6 P w)))
 nd : (xs.map (·.1)).Nodup
theorem held_ok {P : Program} {w : World} {H : Hp} {h : Heap} {d : Addr} {o : Obj} (e : h.get? d = some o) : xd4 P w H h d (held d o) := ⟨e, ⟨o, e⟩, fun h1 h2 q k => k _ q⟩
theorem xi0 {P : Program} {w : World} {H : Hp} {h : Heap} {d : Addr} {o : Obj} (ok : HOk P w H h) (e : H d = some (held d o)) : h.get? d = some o := (ok d _ e).1
section
variable {X : Cx} {pins : List (Addr × Obj)} {σ : St} {H : Hp} {s : Shared}
theorem zc6 {d : Addr} {kvs : List (List Key × V)} (I : Inv X pins σ H s) (e : H d = some (.dT kvs)) : ∃ o xs es ep, DIs X.prog X.w d o kvs xs es ep /\ KT H kvs xs /\ Inv X pins σ (upd H d (held d o)) s := by
 obtain ⟨z1, z2, xs, rel, o, es, ep, h1, h2, h3, h4, h5⟩ := (show xd4 X.prog X.w H s.heap d (.dT kvs) from I.hok d _ e)
 refine ⟨o, xs, es, ep, ⟨z1, z2, h2, h3, h4, h5⟩, rel, ?_⟩
 have := I.write (x := d) (e := d) (o := held d o) (t' := s.toks) (h' := s.heap) (by rw [e]; trivial) (.inl rfl) (fun b u _ q => q) ⟨o, h1⟩ (held_ok h1)
 exact this
theorem yq6 {d : Addr} {o : Obj} {kvs : List (List Key × V)} {xs : List (List Key × Addr × Value)} {es : Array DictEntry} {ep : Nat} (I : Inv X pins σ H s) (e : H d = some (held d o)) (D : DIs X.prog X.w d o kvs xs es ep) (k : KT H kvs xs) :
  Inv X pins σ (upd H d (.dT kvs)) s := by
 have h1 := xi0 I.hok e
 refine I.write (x := d) (e := d) (t' := s.toks) (h' := s.heap) (by rw [e]; trivial) (.inl rfl) (fun b u _ q => q) ⟨o, h1⟩ ?_
 refine ⟨D.len, D.sys, xs, k.keeps fun b ys q => ?_, o, es, ep, h1, D.ex, D.data, D.es, D.nd⟩
 rw [xa3]
 ·exact q
 ·rintro rfl; rw [e] at q; cases q
def tHold (P : Program) (w : World) (t : TE) : TE := fun σ H Q => ∃ d kvs, H d = some (.dT kvs) /\ ∀ o xs es ep, DIs P w d o kvs xs es ep -> KT H kvs xs -> t σ (upd H d (held d o)) fun v H1 => H1 d = some (held d o) /\ xs4 H H1 /\ Q v (upd H1 d (.dT kvs))
theorem pe_hold {e : Expr} {t : TE} (h : PE X e t) : PE X e (tHold X.prog X.w t) := by
 intro pins s σ H Q I q
 obtain ⟨d, kvs, hd, q⟩ := q
 obtain ⟨o, xs, es, ep, D, k, I1⟩ := zc6 I hd
 refine thn (h pins s σ _ _ I1 (q o xs es ep D k)) fun u s1 ⟨v, H1, I2, r, e1, ts, q1⟩ => ⟨v, _, yq6 I2 e1 D (k.keeps ts), r, q1⟩
def sHold (P : Program) (w : World) (t : TS) : TS := fun D σ H => ∃ d kvs, H d = some (.dT kvs) /\ ∀ o xs es ep, DIs P w d o kvs xs es ep -> KT H kvs xs ->
 t { nx := fun σ1 H1 => H1 d = some (held d o) /\ xs4 H H1 /\ D.nx σ1 (upd H1 d (.dT kvs)), rt := fun _ _ => False } σ (upd H d (held d o))
theorem ym5 {e : Stmt} {t : TS} (h : PS X e t) : PS X e (sHold X.prog X.w t) := by
 intro pins s σ H D I q
 obtain ⟨d, kvs, hd, q⟩ := q
 obtain ⟨o, xs, es, ep, Dd, k, I1⟩ := zc6 I hd
 refine thn (h pins s σ _ _ I1 (q o xs es ep Dd k)) fun f s1 sp => ?_
 cases f with
 | next => obtain ⟨σ1, H1, I2, e1, ts, q1⟩ := sp; exact ⟨σ1, _, yq6 I2 e1 Dd (k.keeps ts), q1⟩
 | brk => obtain ⟨σ1, H1, I2, e1⟩ := sp; exact e1.elim
 | cont => obtain ⟨σ1, H1, I2, e1⟩ := sp; exact e1.elim
 | ret u => obtain ⟨v, σ1, H1, I2, r, e1⟩ := sp; exact e1.elim
end
def Itd (d : Addr) (o : Obj) (vs : List V) : It := ⟨fun i H => H d = some (held d o) /\ i < vs.length, fun i H x H' => H' = H /\ vs[i]? = some x, fun i H => H d = some (held d o) /\ vs.length <= i⟩
theorem xv0 : ∀ {vs : List V} {us : List Value}, Vals vs us -> ∀ {i : Nat} {u : Value}, us[i]? = some u -> ∃ v, vs[i]? = some v /\ RelV v u
 | _, _, .nil, i, u, e => by simp at e
 | _, _, .cons r t, 0, u, e => by simp only [List.getElem?_cons_zero, Option.some.injEq] at e; subst e; exact ⟨_, rfl, r⟩
 | _, _, .cons r t, i + 1, u, e => by simp only [List.getElem?_cons_succ] at e ⊢; exact xv0 t e
theorem turn_key {P : Program} {w : World} {K : Frag} {tg : Expr} {d it : Addr} {o : Obj} {vs : List V} {es : Array DictEntry} {ep : Nat} (hex : o.ExactDict) (hdat : o.data = .dict es ep) (hv : Vals vs (es.toList.map (·.key))) :
  Turn P w K tg (Itd d o vs) [it] it (fun i h => h.IsKeyIter it d i es.size ep) where
 mem := by simp
 obj := fun i h st b hb => by
  obtain rfl : b = it := by simpa using hb
  obtain ⟨o, e, c, d⟩ := st
  exact ⟨o, e, fun v z => by rw [d] at z; cases z⟩
 keep := fun i h h' st k => by
  obtain ⟨o, e, c, d⟩ := st
  exact ⟨o, k it (by simp) o e, c, d⟩
 item := by
  intro X hP hw hK hc i pins s σ H E I hf st hg
  subst hP hw hK
  obtain ⟨hd, hg⟩ := hg
  obtain ⟨f0, f1, f2, f3, f4, f5⟩ := hf it (by simp)
  have hl : vs.length = es.size := by rw [hv.length, List.length_map, Array.length_toList]
  have hi : i < es.size := by omega
  obtain ⟨v, hv1, hv2⟩ := xv0 hv (i := i) (u := es[i].key) (by simp [hi])
  refine next_key st ⟨o, xi0 I.hok hd, hex, hdat⟩ (e := es[i]) (by simp [hi]) fun h' st' sb => ?_
  have I1 : Inv X pins σ H { s with heap := h' } := I.turned (t' := s.toks) (fun b o hb e => (sb.2 b hb).trans e) f0 f1 f3 f4 f5
  obtain ⟨o', e1, c, d'⟩ := id st'
  exact ⟨_, rfl, yn9 (s := { s with heap := h' }) e1 c d' (by decide) ⟨v, H, I1, hv2, ⟨rfl, hv1⟩, st', fun b hb => (hf b hb).1⟩⟩
 done := by
  intro X hP hw hK hc i pins s σ H E I hf st hg
  subst hP hw hK
  obtain ⟨hd, hg⟩ := hg
  obtain ⟨f0, f1, f2, f3, f4, f5⟩ := hf it (by simp)
  have hl : vs.length = es.size := by rw [hv.length, List.length_map, Array.length_toList]
  exact end_key (I.ok.hd hc) st ⟨o, xi0 I.hok hd, hex, hdat⟩ (by omega) fun h' eb => ⟨rfl, I.turned (t' := s.toks) (fun b o hb e => eb b o hb e) f0 f1 f3 f4 f5⟩
 self := fun _ _ _ _ _ st h => wpAny_pyIter_keyiter st h
theorem turn_val {P : Program} {w : World} {K : Frag} {tg : Expr} {d it : Addr} {o : Obj} {vs : List V} {es : Array DictEntry} {ep : Nat} (hex : o.ExactDict) (hdat : o.data = .dict es ep) (hv : Vals vs (es.toList.map (·.val))) :
  Turn P w K tg (Itd d o vs) [it] it (fun i h => h.IsValIter it d i es.size ep) where
 mem := by simp
 obj := fun i h st b hb => by
  obtain rfl : b = it := by simpa using hb
  obtain ⟨o, e, c, d⟩ := st
  exact ⟨o, e, fun v z => by rw [d] at z; cases z⟩
 keep := fun i h h' st k => by
  obtain ⟨o, e, c, d⟩ := st
  exact ⟨o, k it (by simp) o e, c, d⟩
 item := by
  intro X hP hw hK hc i pins s σ H E I hf st hg
  subst hP hw hK
  obtain ⟨hd, hg⟩ := hg
  obtain ⟨f0, f1, f2, f3, f4, f5⟩ := hf it (by simp)
  have hl : vs.length = es.size := by rw [hv.length, List.length_map, Array.length_toList]
  have hi : i < es.size := by omega
  obtain ⟨v, hv1, hv2⟩ := xv0 hv (i := i) (u := es[i].val) (by simp [hi])
  refine next_val st ⟨o, xi0 I.hok hd, hex, hdat⟩ (e := es[i]) (by simp [hi]) fun h' st' sb => ?_
  have I1 : Inv X pins σ H { s with heap := h' } := I.turned (t' := s.toks) (fun b o hb e => (sb.2 b hb).trans e) f0 f1 f3 f4 f5
  obtain ⟨o', e1, c, d'⟩ := id st'
  exact ⟨_, rfl, yn9 (s := { s with heap := h' }) e1 c d' (by decide) ⟨v, H, I1, hv2, ⟨rfl, hv1⟩, st', fun b hb => (hf b hb).1⟩⟩
 done := by
  intro X hP hw hK hc i pins s σ H E I hf st hg
  subst hP hw hK
  obtain ⟨hd, hg⟩ := hg
  obtain ⟨f0, f1, f2, f3, f4, f5⟩ := hf it (by simp)
  have hl : vs.length = es.size := by rw [hv.length, List.length_map, Array.length_toList]
  exact end_val (I.ok.hd hc) st ⟨o, xi0 I.hok hd, hex, hdat⟩ (by omega) fun h' eb => ⟨rfl, I.turned (t' := s.toks) (fun b o hb e => eb b o hb e) f0 f1 f3 f4 f5⟩
 self := fun _ _ _ _ _ st h => wpAny_pyIter_valiter st h
def iKey (tl : TE) : TI := fun σ H R => tl σ H fun x H1 => ∃ d o vs es ep, x = .ref d /\ H1 d = some (held d o) /\ (d == sysModules) = false /\ o.ExactDict /\ o.data = .dict es ep /\ Vals vs (es.toList.map (·.key)) /\ R (Itd d o vs) H1
theorem pi_key {X : Cx} {tg l : Expr} {tl : TE} (hl : PE X l tl) : PI X tg l (iKey tl) := by
 intro pins s σ H R I h
 refine thn (hl pins s σ H _ I h) fun v s1 ⟨y, H1, I1, r1, q1⟩ => ?_
 obtain ⟨d, o, vs, es, ep, rfl, hd, hs, hex, hdat, hv, q⟩ := q1
 cases r1
 have fp : ∀ b ∈ [s1.heap.objs.size], FpOk X pins H1 b := fun b hb => by
  obtain rfl : b = s1.heap.objs.size := by simpa using hb
  exact I1.fpOk (Nat.le_refl _) (I1.hok.fresh (Nat.le_refl _))
 exact iter_raw hs ⟨o, xi0 I1.hok hd, hex, hdat⟩ ⟨s1.heap.objs.size, [s1.heap.objs.size], _, _, H1, rfl, I1.kept (t' := s1.toks) fun b o e => Heap.get?_push_of_some _ e, turn_key hex hdat hv, ⟨_, Heap.get?_push_size _ rfl, rfl, rfl⟩, fp, q⟩
def iVal (tl : TE) : TI := fun σ H R => tl σ H fun x H1 => ∃ p d o vs es ep, x = .ref p /\ H1 p = some (yw4 "dict_values" p d) /\ H1 d = some (held d o) /\ o.ExactDict /\ o.data = .dict es ep /\ Vals vs (es.toList.map (·.val)) /\ R (Itd d o vs) H1
theorem pi_val {X : Cx} {tg l : Expr} {tl : TE} (hl : PE X l tl) : PI X tg l (iVal tl) := by
 intro pins s σ H R I h
 refine thn (hl pins s σ H _ I h) fun v s1 ⟨y, H1, I1, r1, q1⟩ => ?_
 obtain ⟨p, d, o, vs, es, ep, rfl, hp, hd, hex, hdat, hv, q⟩ := q1
 cases r1
 have fp : ∀ b ∈ [s1.heap.objs.size], FpOk X pins H1 b := fun b hb => by
  obtain rfl : b = s1.heap.objs.size := by simpa using hb
  exact I1.fpOk (Nat.le_refl _) (I1.hok.fresh (Nat.le_refl _))
 have hvw : s1.heap.IsValuesView p d := (I1.hok p _ hp).1
 exact zc1 hvw ⟨o, xi0 I1.hok hd, hex, hdat⟩ ⟨s1.heap.objs.size, [s1.heap.objs.size], _, _, H1, rfl, I1.kept (t' := s1.toks) fun b o e => Heap.get?_push_of_some _ e, turn_val hex hdat hv, ⟨_, Heap.get?_push_size _ rfl, rfl, rfl⟩, fp, q⟩
section
variable {X : Cx} {o : Expr} {to : TE} {apos cpos : Pos}
def tView (n : String) (to : TE) : TE := fun σ H Q => to σ H fun x H1 => ∃ d o es ep, x = .ref d /\ H1 d = some (held d o) /\ (d == sysModules) = false /\ o.ExactDict /\ o.data = .dict es ep /\ ∀ p, H1 p = none -> Q (.ref p) (upd H1 p (yw4 n p d))
theorem yg3 {pins : List (Addr × Obj)} {σ : St} {H : Hp} {s : Shared} {d : Addr} {n : String} (I : Inv X pins σ H s) : Inv X pins σ (upd H s.heap.objs.size (yw4 n s.heap.objs.size d)) { s with heap := s.heap.push { cls := .type n, data := .fields #[.ref d] } } :=
 I.laid (t' := s.toks) (fun b u e => Heap.get?_push_of_some _ e) (Nat.le_refl _) ⟨⟨_, Heap.get?_push_size _ rfl, rfl, rfl⟩, ⟨_, Heap.get?_push_size _ rfl⟩, fun h1 h2 ⟨o, q1, q⟩ k => ⟨o, k _ q1, q⟩⟩
theorem yz9 (ho : PE X o to) (hbase : attributeBase o "values" X.env (eval o X.env) = eval o X.env := by rfl) (hline : (apos.endLine == cpos.line) = true := by rfl) : PE X (.Call (.Attribute o "values" apos) [] [] cpos) (tView "dict_values" to) := by
 intro pins s σ H Q I h
 refine wpAny_Call_method0_late hbase hline (thn (ho pins s σ H _ I h) fun v s1 ⟨x, H1, I1, r1, d, ob, es, ep, e, hd, hs, hex, hdat, q⟩ => ?_)
 subst e
 cases r1
 have h1 := xi0 I1.hok hd
 refine ⟨"dict", "dict.values", PySem.F.plainAttrs_dict, PySem.F.slot_dict_values, PySem.F.type_dict_values, ⟨ob, h1, hex.1⟩, fun a z => by cases z; exact ⟨ob, h1, hex.2.1⟩, Calls.callWith_builtin rfl (PySem.evalArgs_none ?_)⟩
 exact vals_raw hs ⟨ob, h1, hex, hdat⟩ ⟨.ref s1.heap.objs.size, _, yg3 I1, rfl, q _ (I1.hok.fresh (Nat.le_refl _))⟩
theorem yp8 (ho : PE X o to) (hbase : attributeBase o "items" X.env (eval o X.env) = eval o X.env := by rfl) (hline : (apos.endLine == cpos.line) = true := by rfl) : PE X (.Call (.Attribute o "items" apos) [] [] cpos) (tView "dict_items" to) := by
 intro pins s σ H Q I h
 refine wpAny_Call_method0_late hbase hline (thn (ho pins s σ H _ I h) fun v s1 ⟨x, H1, I1, r1, d, ob, es, ep, e, hd, hs, hex, hdat, q⟩ => ?_)
 subst e
 cases r1
 have h1 := xi0 I1.hok hd
 refine ⟨"dict", "dict.items", PySem.F.plainAttrs_dict, PySem.F.slot_dict_items, PySem.F.type_dict_items, ⟨ob, h1, hex.1⟩, fun a z => by cases z; exact ⟨ob, h1, hex.2.1⟩, Calls.callWith_builtin rfl (PySem.evalArgs_none ?_)⟩
 exact zc2 hs ⟨ob, h1, hex, hdat⟩ ⟨.ref s1.heap.objs.size, _, yg3 I1, rfl, q _ (I1.hok.fresh (Nat.le_refl _))⟩
end
theorem Inv.trackF {X : Cx} {pins : List (Addr × Obj)} {σ : St} {H : Hp} {s : Shared} {a : Addr} {o : HO} (I : Inv X pins σ H s) (f : FpOk X pins H a) (hs : X.s₀.heap.objs.size <= a) (new : xd4 X.prog X.w (upd H a o) s.heap a o) : Inv X pins σ (upd H a o) s := by
 obtain ⟨f0, f1, f2, f3, f4, f5⟩ := f
 have ne : ∀ {b u}, H b = some u -> b ≠ a := fun e z => by rw [z, f0] at e; cases e
 refine ⟨I.ok, I.os, I.bare, ⟨I.base.keep, I.base.slot, fun b ob q n hx => ?_, I.base.there, fun b xs q => ?_, fun b ob u q => ?_, fun b ps q => ?_⟩, I.loc, I.cell, ?_, fun x c e => ?_, fun p hp => ?_, fun b u e => ?_, I.len⟩
 ·rw [xa3 (Nat.ne_of_lt (Nat.lt_of_lt_of_le (Heap.lt_size q) hs))]; exact I.base.free b ob q n hx
 ·have := I.base.tups b xs q
  rw [xa3 (ne this)]; exact this
 ·have := I.base.frzs b ob u q
  rw [xa3 (ne this)]; exact this
 ·obtain ⟨m, e⟩ := I.base.tbls b ps q
  exact ⟨m, by rw [xa3 (ne e)]; exact e⟩
 ·rw [xa3 (Ne.symm f1)]; exact I.free
 ·rw [xa3 (f4 x c e)]; exact I.freeC x c e
 ·obtain ⟨p1, p2, p3⟩ := I.pin p hp
  exact ⟨p1, by rw [xa3 (f5 p hp)]; exact p2, p3⟩
 ·by_cases hb : b = a
  ·subst hb; rw [xa1] at e; cases e; exact new
  ·rw [xa3 hb] at e
   exact (I.hok b u e).stay (fun c v _ q => q) (fun c q => by rw [xa3 (ne q)]; exact q) fun c xs q => by rw [xa3 (ne q)]; exact q
theorem ya4 : entryFor table "dict_itemiterator.__iter__" = some Builtin.«dict_keyiterator.__iter__» := entryFor_alias (id' := "dict_keyiterator.__iter__") (by kernel_rfl) rfl (by decide +kernel) (by kernel_rfl)
def Itp (d : Addr) (o : Obj) (ks vs : List V) : It := ⟨fun i H => H d = some (held d o) /\ i < ks.length, fun i H x H' => ∃ p k v, x = .ref p /\ H p = none /\ ks[i]? = some k /\ vs[i]? = some v /\ H' = upd H p (.tup [k, v]), fun i H => H d = some (held d o) /\ ks.length <= i⟩
theorem ys1 {P : Program} {w : World} {K : Frag} {elts : List Expr} {x1} {tpos : Pos} {d it : Addr} {o : Obj} {ks vs : List V} {es : Array DictEntry} {ep : Nat} (hex : o.ExactDict) (hdat : o.data = .dict es ep) (hk : Vals ks (es.toList.map (·.key))) (hv : Vals vs (es.toList.map (·.val))) :
  Turn P w K (.Tuple elts x1 tpos) (Itp d o ks vs) [it] it (fun i h => ∃ ok ov, IsItemIter h it d i es.size ep ok ov) where
 mem := by simp
 obj := fun i h st b hb => by
  obtain rfl : b = it := by simpa using hb
  obtain ⟨ok, ov, e⟩ := st
  exact ⟨_, e, fun v z => by cases z⟩
 keep := fun i h h' st k => by
  obtain ⟨ok, ov, e⟩ := st
  exact ⟨ok, ov, k it (by simp) _ e⟩
 item := by
  intro X hP hw hK hc i pins s σ H E I hf st hg
  subst hP hw hK
  obtain ⟨hd, hg⟩ := hg
  obtain ⟨ok, ov, st⟩ := st
  obtain ⟨f0, f1, f2, f3, f4, f5⟩ := hf it (by simp)
  have hl : ks.length = es.size := by rw [hk.length, List.length_map, Array.length_toList]
  have hi : i < es.size := by omega
  obtain ⟨k, hk1, hk2⟩ := xv0 hk (i := i) (u := es[i].key) (by simp [hi])
  obtain ⟨v, hv1, hv2⟩ := xv0 hv (i := i) (u := es[i].val) (by simp [hi])
  refine yu3 st ⟨o, xi0 I.hok hd, hex, hdat⟩ (e := es[i]) (by simp [hi]) fun h' st' ht hz kp => ?_
  refine ⟨_, rfl, wpAny_letOwnedTupleGo_items (s := { s with heap := h' }) st' fun h2 st2 sb2 => ?_⟩
  have sb2 : Heap.SameBut it h' h2 := sb2
  have nit : s.heap.objs.size ≠ it := Nat.ne_of_gt (Heap.lt_size st)
  have I1 : Inv X pins σ H { s with heap := h2 } := I.turned (t' := s.toks) (fun b o hb e => (sb2.2 b hb).trans (kp b o hb e)) f0 f1 f3 f4 f5
  have ht2 : h2.get? s.heap.objs.size = some { cls := .type "tuple", data := .seq #[es[i].key, es[i].val] } := (sb2.2 _ nit).trans ht
  have hn : H s.heap.objs.size = none := I.hok.fresh (Nat.le_refl _)
  refine ⟨.ref s.heap.objs.size, upd H s.heap.objs.size (.tup [k, v]), ?_, rfl, ⟨_, k, v, rfl, hn, hk1, hv1, rfl⟩, ⟨_, _, st2⟩, fun b hb => ?_⟩
  ·obtain ⟨g0, g1, g2, g3, g4, g5⟩ := I.fpOk (Nat.le_refl _) hn
   refine I1.trackF ⟨g0, g1, g2, g3, g4, g5⟩ (Nat.le_trans I.sz (Nat.le_refl _)) ⟨by show 2 <= sizeLine; decide, [es[i].key, es[i].val], .cons hk2 (.cons hv2 .nil), _, ht2, rfl, _, rfl⟩
  ·obtain rfl : b = it := by simpa using hb
   rw [xa3 (Ne.symm nit)]; exact f0
 done := by
  intro X hP hw hK hc i pins s σ H E I hf st hg
  subst hP hw hK
  obtain ⟨hd, hg⟩ := hg
  obtain ⟨ok, ov, st⟩ := st
  obtain ⟨f0, f1, f2, f3, f4, f5⟩ := hf it (by simp)
  have hl : ks.length = es.size := by rw [hk.length, List.length_map, Array.length_toList]
  exact zd8 (I.ok.hd hc) st ⟨o, xi0 I.hok hd, hex, hdat⟩ (by omega) fun h' eb => ⟨rfl, I.turned (t' := s.toks) (fun b o hb e => eb b o hb e) f0 f1 f3 f4 f5⟩
 self := fun _ _ _ _ _ st h => by
  obtain ⟨ok, ov, st⟩ := st
  have hT : Shared.TypeIs _ (.ref it) "dict_itemiterator" := ⟨_, st, rfl⟩
  refine wpAny_pyIter_slot hT F.slot_dict_itemiterator_iter (wpAny_call_entry F.slot_dict_itemiterator_iter hT ya4 ?_ (F.args_dict_itemiterator_iter_1 _))
  show wpAny _ _ (ret (.ref it)) _ _ _; exact wpAny_pure ⟨_, rfl, "dict_itemiterator", _, hT, F.slot_dict_itemiterator_next.lookup, h⟩
def iItems (tl : TE) : TI := fun σ H R => tl σ H fun x H1 => ∃ p d o ks vs es ep, x = .ref p /\ H1 p = some (yw4 "dict_items" p d) /\ H1 d = some (held d o) /\ o.ExactDict /\ o.data = .dict es ep /\ Vals ks (es.toList.map (·.key)) /\ Vals vs (es.toList.map (·.val)) /\ R (Itp d o ks vs) H1
theorem yp7 {X : Cx} {elts : List Expr} {x1} {tpos : Pos} {l : Expr} {tl : TE} (hl : PE X l tl) : PI X (.Tuple elts x1 tpos) l (iItems tl) := by
 intro pins s σ H R I h
 refine thn (hl pins s σ H _ I h) fun v s1 ⟨y, H1, I1, r1, q1⟩ => ?_
 obtain ⟨p, d, o, ks, vs, es, ep, rfl, hp, hd, hex, hdat, hk, hv, q⟩ := q1
 cases r1
 have fp : ∀ b ∈ [s1.heap.objs.size], FpOk X pins H1 b := fun b hb => by
  obtain rfl : b = s1.heap.objs.size := by simpa using hb
  exact I1.fpOk (Nat.le_refl _) (I1.hok.fresh (Nat.le_refl _))
 have hvw : s1.heap.IsItemsView p d := (I1.hok p _ hp).1
 exact yv1 hvw ⟨o, xi0 I1.hok hd, hex, hdat⟩ ⟨s1.heap.objs.size, [s1.heap.objs.size], _, _, H1, rfl, I1.kept (t' := s1.toks) fun b o e => Heap.get?_push_of_some _ e, ys1 hex hdat hk hv, ⟨.none, .none, Heap.get?_push_size _ rfl⟩, fp, q⟩
theorem xx6 {P : Program} {w : World} {d : Addr} {o : Obj} {kvs : List (List Key × V)} {xs : List (List Key × Addr × Value)} {es : Array DictEntry} {ep : Nat} (D : DIs P w d o kvs xs es ep) : Vals (xs.map fun x => V.ref x.2.1) (es.toList.map (·.key)) := by
 rw [D.es, List.map_map]
 clear D
 induction xs with
 | nil => exact .nil
 | cons x xs ih => exact .cons rfl ih
theorem xu9 {P : Program} {w : World} {H : Hp} {d : Addr} {o : Obj} {kvs : List (List Key × V)} {xs : List (List Key × Addr × Value)} {es : Array DictEntry} {ep : Nat} (D : DIs P w d o kvs xs es ep) (k : KT H kvs xs) : Vals (kvs.map (·.2)) (es.toList.map (·.val)) := by
 rw [D.es, List.map_map]
 clear D
 induction k with
 | nil => exact .nil
 | cons hq t ih => exact .cons hq.2.2 ih
theorem ze4 {d D : Addr} {o : Obj} {vs : List V} {g : TG} {te : TE} {σ0 : St} {H1 : Hp} {Q : Hp -> Prop} (R : V -> V -> Hp -> Prop) (ok : St -> Prop) (mono : ∀ H H' x v, xs4 H H' -> R x v H -> R x v H')
  (hd0 : H1 d = some (held d o)) (hD : H1 D = none) (hz : vs.length <= 1000) (h0 : ok σ0)
  (hs : ∀ x σ' H (N : St -> V -> Hp -> Prop), x ∈ vs -> ok σ' -> Same H1 H -> (∀ σ3 v H4, R x v H4 -> Same H H4 -> ok σ3 -> N σ3 v H4) -> g x σ' H fun σ3 H3 => te σ3 H3 fun v H4 => N σ3 v H4)
  (hd : ∀ ys H', Same H1 H' -> H' D = some (.lst ys) -> Paired (fun x v => R x v H') vs ys -> Q H') :
  ∃ W : Nat -> Nat -> St -> Hp -> Prop, (∃ m, W 0 m σ0 (upd H1 D (.lst []))) /\
   ∀ i m σ' H', W i m σ' H' -> ((Itd d o vs).stop i H' /\ Q H') \/ ((Itd d o vs).go i H' /\ ∀ x H2, (Itd d o vs).yld i H' x H2 -> g x σ' H2 fun σ3 H3 => te σ3 H3 fun v H4 => ∃ xs, H4 D = some (.lst xs) /\ xs.length < sizeLine /\ ∃ m', m' < m /\ W (i + 1) m' σ3 (upd H4 D (.lst (xs ++ [v])))) := by
 refine ⟨fun i m σ' H' => m = vs.length - i /\ i <= vs.length /\ ok σ' /\ Same H1 H' /\ ∃ ys, H' D = some (.lst ys) /\ Paired (fun x v => R x v H') (vs.take i) ys, ⟨vs.length, by simp, Nat.zero_le _, h0, Same.new hD, [], xa1, by rw [List.take_zero]; exact .nil⟩, ?_⟩
 rintro i m σ' H' ⟨rfl, hi, hok, hsm, ys, hy, hp⟩
 have hyl : ys.length = i := by rw [<- Paired.length hp, List.length_take, Nat.min_eq_left hi]
 by_cases hlt : i < vs.length
 ·refine .inr ⟨⟨hsm _ _ hd0, hlt⟩, fun x H2 y => ?_⟩
  obtain ⟨e, hx⟩ := y
  subst e
  refine hs x σ' _ (fun σ3 v H4 => ∃ xs', H4 D = some (.lst xs') /\ xs'.length < sizeLine /\ ∃ m', m' < vs.length - i /\ _) (List.mem_of_getElem? hx) hok hsm fun σ3 v H4 r s4 ok3 => ?_
  have tD : xs4 H4 (upd H4 D (.lst (ys ++ [v]))) := fun b zs e => by
   rw [xa3 (xk0 e (s4 _ _ hy) (by intro z; cases z))]; exact e
  refine ⟨ys, s4 _ _ hy, Nat.lt_of_lt_of_le (show ys.length < 1001 by omega) (by decide), vs.length - (i + 1), by omega, rfl, hlt, ok3, (hsm.trans s4).upd hD, ys ++ [v], xa1, ?_⟩
  rw [show vs.take (i + 1) = vs.take i ++ [x] by rw [List.take_add_one, hx]; rfl]
  exact Paired.snoc (Paired.mapP hp fun b w q => mono _ _ _ _ (s4.tup.trans tD) q) (mono _ _ _ _ tD r)
 ·have e : i = vs.length := by omega
  subst e
  refine .inl ⟨⟨hsm _ _ hd0, Nat.le_refl _⟩, hd ys H' hsm hy (by rw [List.take_length] at hp; exact hp)⟩
section
variable {X : Cx} {tg iter elt tst : Expr} {scope : Scope} {N : List Str} {js : List (Option Nat)} {pos : Pos}
end
def tNo : TE := fun _ _ _ => False
section
variable {X : Cx}
theorem pe_no {e : Expr} : PE X e tNo := fun _ _ _ _ _ _ h => h.elim
theorem yw2 : xi1 X (.type "dict") (fun xs H Q => ∃ d, xs = [V.ref d] /\ H d = some (.dT []) /\ ∀ p, H p = none -> Q (.ref p) (upd H p (.dT []))) := by
 intro pins s σ H xs us Q I r h
 obtain ⟨d, rfl, hd, q⟩ := h
 obtain ⟨u, rfl, rx⟩ := xq0 r
 cases rx
 obtain ⟨z1, z2, ys, rel, o, es, ep, h1, h2, h3, h4, h5⟩ := (show xd4 X.prog X.w H s.heap d (.dT []) from I.hok d _ hd)
 cases rel
 have he : es = #[] := by cases es; simpa using h4
 subst he
 have dd : s.heap.DictOf (xd6 X.prog X.w) d [] := ⟨o, #[], ep, h1, h2, h3, fun e hm => by simp at hm, .nil, List.nodup_nil⟩
 refine kt_call_dict z2 dd (Nat.zero_le _) fun h' dd' hs => ?_
 obtain ⟨o', es', ep', g1, g2, g3, g4, g5, g6⟩ := dd'
 have he' : es' = #[] := by
  have := g5.length
  cases es'
  simpa using this
 subst he'
 refine ⟨.ref s.heap.objs.size, _, I.laid (o := .dT []) (t' := s.toks) (fun b q hq => ?_) (Nat.le_refl _) ⟨Nat.zero_le _, beq_eq_false_iff_ne.mpr (Ne.symm (Nat.ne_of_lt I.big)), [], .nil, o', #[], ep', g1, g2, g3, rfl, List.nodup_nil⟩, rfl, q _ (I.hok.fresh (Nat.le_refl _))⟩
 exact (hs.2 b (Nat.ne_of_lt (Heap.lt_size hq))).trans (Heap.get?_push_of_some _ hq)
theorem yp3 : ∀ {ks : List (List Key × Addr)} {its : List Value}, Vals (ks.map fun x => V.ref x.2) its -> its = ks.map fun x => Value.ref x.2
 | [], its, rv => by rw [List.map_nil] at rv; cases rv; rfl
 | k :: ks, its, rv => by
  rw [List.map_cons] at rv
  cases rv with
  | cons r1 t1 => cases r1; rw [List.map_cons, yp3 t1]
theorem ze6 (hc : X.calm = true) (hu : X.A.units + 64 < cLine) : xi1 X (.type "set") (fun xs H Q => ∃ (l : Addr) (ks : List (List Key × Addr)), xs = [V.ref l] /\ H l = some (.lst (ks.map fun x => V.ref x.2)) /\ xs5 H ks /\ (∀ z ∈ ks, xm2 z.1) /\ ks.length <= 36 /\
  ∀ p zs, H p = none -> Firsts zs ks -> (zs.map (·.1)).Nodup -> Q (.ref p) (upd H p (setO X.prog X.w p zs))) := by
 intro pins s σ H xs us Q I r h
 obtain ⟨l, ks, rfl, hl, hk, ht, hn, q⟩ := h
 obtain ⟨u, rfl, rx⟩ := xq0 r
 cases rx
 refine yy4 fun led A' hled hA hH => ?_
 have k0 : ∀ b o, s.heap.get? b = some o -> (s.heap.push (xb5 led)).get? b = some o := fun b o e => Heap.get?_push_of_some _ e
 have hS : (s.heap.push (xb5 led)).get? s.heap.objs.size = some (xb5 led) := Heap.get?_push_size _ rfl
 have I0 : Inv X pins σ H { s with heap := s.heap.push (xb5 led) } := I.kept (t' := s.toks) k0
 obtain ⟨_, its, n, rv, e1⟩ := (show xd4 X.prog X.w H _ l (.lst (ks.map fun x => V.ref x.2)) from I0.hok l _ hl)
 have hi : its = ks.map fun x => Value.ref x.2 := yp3 rv
 refine upd_list (s := { s with heap := s.heap.push (xb5 led) }) (kn := xd6 X.prog X.w) (p := l) (items := its.toArray) (l := ks) (by rw [hH]; exact I.ok.hd hc) (by omega) hled hS ⟨_, e1, rfl, _, rfl⟩ (by simpa using hi) hn (fun x hx => ⟨yc3 I0.hok (hk x hx), (xq2 I0.hok (hk x hx) (ht x hx)).2⟩) fun s' zs kp g o d hz hf => ?_
 have nS : s.heap.get? s.heap.objs.size = none := xj6 _
 have keep : ∀ b o, s.heap.get? b = some o -> s'.heap.get? b = some o := fun b o e => kp b o (by rintro rfl; rw [nS] at e; cases e) (k0 b o e)
 have I1 : Inv X pins σ (upd H s.heap.objs.size (setO X.prog X.w s.heap.objs.size zs)) { s with heap := s'.heap, toks := s'.toks } := I.laid (t' := s'.toks) keep (Nat.le_refl _) (yl8 hz)
 have es : s' = { ({ s with heap := s'.heap, toks := s'.toks } : Shared) with drawn := s'.drawn } := by
  cases s'
  simp only at g o ⊢
  rw [g, o]
 refine ⟨.ref s.heap.objs.size, _, ?_, rfl, q _ zs (I.hok.fresh (Nat.le_refl _)) hf ?_⟩
 ·rw [es]
  exact I1.redrawn _
 ·obtain ⟨_, _, _, _, _, _, _, S, _⟩ := hz
  exact S.nd
end
end L2
namespace LS
open PySem PySem.Spec PyProof.Rows L2
def two : Option (Int × Tok) -> Array Value
 | none => #[]
 | some (m, t) => #[.int m t, .int m t]
section
variable {prog : Program} {w : World} {A : Around} {E : Value -> Shared -> Prop} {s : Shared} {R : Result -> Shared -> Prop}
end
end LS
namespace L2
open PySem PySem.Spec PyProof.Rows LS
section
variable {X : Cx}
end
theorem xy8 {X : Cx} (K : Frag) (hK : X.K = K := by rfl) : xi1 X (.builtin "isinstance") (fun xs H Q => ∃ x C t b, xs = [x, .ref C] /\ TyOf K H x t /\ kitOne K t (.ref C) = some b /\ Q (.bl b) H) := by
 subst hK
 intro pins s σ H xs us Q I r h
 obtain ⟨x, C, t, b, rfl, ht, hb, q⟩ := h
 obtain ⟨u, w', rfl, r1, r2⟩ := yr8 r
 cases r2
 exact yj6 I r1 ht hb fun tk => ⟨.bl b, H, I.tok tk, rfl, q⟩
theorem xp9 : bootBuiltins "sorted" = Option.some (Value.builtin "sorted") := by decide +kernel
theorem xt1 {X : Cx} (K : Frag) (hK : X.K = K := by rfl) : xi1 X (.type "list") (fun xs H Q => ∃ p ys, xs = [.ref p] /\ SqL K H p ys /\ ∀ l, H l = none -> Q (.ref l) (upd H l (.lst ys))) := by
 subst hK
 intro pins s σ H xs us Q I r h
 obtain ⟨p, ys, e, hq, q⟩ := h
 exact yk8 pins s σ H xs us Q I r ⟨p, ys, e, .inl hq, q⟩
theorem comp_tpm {K : Frag} {a D : Addr} {xs : List V} {g : TG} {te : TE} {σ0 : St} {H1 : Hp} {Q : Hp -> Prop} (f : V -> V) (ok : St -> Prop)
  (sq : H1 a = some (.tup xs)) (hD : H1 D = none) (hz : xs.length <= 1000) (h0 : ok σ0)
  (hs : ∀ x σ' H (N : St -> V -> Hp -> Prop), x ∈ xs -> ok σ' -> Same H1 H -> (∀ σ3 H4, Same H H4 -> ok σ3 -> N σ3 (f x) H4) -> g x σ' H fun σ3 H3 => te σ3 H3 fun v H4 => N σ3 v H4)
  (hd : ∀ H', Same H1 H' -> H' D = some (.lst (xs.map f)) -> Q H') :
  ∃ W : Nat -> Nat -> St -> Hp -> Prop, (∃ m, W 0 m σ0 (upd H1 D (.lst []))) /\
   ∀ i m σ' H', W i m σ' H' -> ((Itt K a).stop i H' /\ Q H') \/ ((Itt K a).go i H' /\ ∀ x H2, (Itt K a).yld i H' x H2 -> g x σ' H2 fun σ3 H3 => te σ3 H3 fun v H4 => ∃ xs, H4 D = some (.lst xs) /\ xs.length < sizeLine /\ ∃ m', m' < m /\ W (i + 1) m' σ3 (upd H4 D (.lst (xs ++ [v])))) := by
 refine ⟨fun i m σ' H' => m = xs.length - i /\ i <= xs.length /\ ok σ' /\ Same H1 H' /\ H' D = some (.lst ((xs.take i).map f)), ⟨xs.length, by simp, Nat.zero_le _, h0, Same.new hD, by rw [List.take_zero]; exact xa1⟩, ?_⟩
 rintro i m σ' H' ⟨rfl, hi, hok, hsm, hy⟩
 have sq' : SqT K H' a xs := SqT.of (hsm _ _ sq)
 by_cases hlt : i < xs.length
 ·refine .inr ⟨⟨xs, xs[i], sq', by simp [hlt]⟩, fun x H2 y => ?_⟩
  obtain ⟨e, y⟩ := y
  subst e
  have hx := y xs sq'
  refine hs x σ' _ (fun σ3 v H4 => ∃ xs', H4 D = some (.lst xs') /\ xs'.length < sizeLine /\ ∃ m', m' < xs.length - i /\ _) (List.mem_of_getElem? hx) hok hsm fun σ3 H4 s4 ok3 => ?_
  refine ⟨_, s4 _ _ hy, Nat.lt_of_lt_of_le (show _ < 1001 by rw [List.length_map, List.length_take]; omega) (by decide), xs.length - (i + 1), by omega, rfl, hlt, ok3, (hsm.trans s4).upd hD, ?_⟩
  rw [xa1, List.take_add_one, hx, List.map_append]; rfl
 ·have e : i = xs.length := by omega
  subst e
  exact .inl ⟨⟨xs, sq', Nat.le_refl _⟩, hd H' hsm (by rw [List.take_length] at hy; exact hy)⟩
section
variable {X : Cx} {tg : Expr}
end
theorem Inv.turnedL {X : Cx} {pins : List (Addr × Obj)} {σ : St} {H : Hp} {s : Shared} {h' : Heap} {t' : Nat} (ch : List Addr) (I : Inv X pins σ H s) (k : ∀ b o, b ∉ ch -> s.heap.get? b = some o -> h'.get? b = some o) (f : ∀ b ∈ ch, FpOk X pins H b) : Inv X pins σ H { s with heap := h', toks := t' } := by
 have nit : ∀ b u, H b = some u -> b ∉ ch := fun b u e z => by rw [(f b z).1] at e; cases e
 refine I.step (g' := s.gens) (d' := s.drawn) (ch := ch) (fun b hb => ⟨(f b hb).2.2.2.1, (f b hb).2.1, (f b hb).2.2.2.2.1, (f b hb).2.2.2.2.2⟩) (fun b o _ _ hc e _ => k b o hc e) (fun b o _ _ hc e _ => ⟨o.slots, k b o hc e⟩) (fun _ _ _ _ n => n)
  (fun b o hc e => ⟨o, k b o hc e⟩) (fun _ _ e => e) (fun _ _ _ e => e) (fun b ps e => ⟨#[], by rw [e]; simp⟩) (fun m hm => ?_) (fun b u e => ?_) I.bare
 ·obtain ⟨o, es, ep, ho, r⟩ := hm
  exact ⟨o, es, ep, k _ o (fun z => (f _ z).2.1 rfl) ho, r⟩
 ·refine (I.hok b u e).stay (fun c v hc q => k c v ?_ q) (fun _ q => q) fun _ _ q => q
  rcases hc with z | z
  ·rw [z]; exact nit b u e
  ·exact nit c _ z
structure Five (z a b c d : Addr) : Prop where
 az : a ≠ z
 bz : b ≠ z
 cz : c ≠ z
 dz : d ≠ z
 ab : a ≠ b
 ac : a ≠ c
 ad : a ≠ d
 bc : b ≠ c
 bd : b ≠ d
 cd : c ≠ d
open PySem PySem.Spec PyProof.Rows LS PySem.SeqAt
mutual
inductive IsD8 (K : Frag) (H : Hp) : V -> PyData -> Prop
 | non : IsD8 K H .non .none
 | bl (b) : IsD8 K H (.bl b) (.bool b)
 | int (i) : IsD8 K H (.int i) (.int i)
 | str (x) : IsD8 K H (.str x) (.str x)
 | lst {a xs ds} : SqL K H a xs -> AreD8 K H xs ds -> IsD8 K H (.ref a) (.list ds)
 | tup {a xs ds} : SqT K H a xs -> AreD8 K H xs ds -> IsD8 K H (.ref a) (.tuple ds)
inductive AreD8 (K : Frag) (H : Hp) : List V -> List PyData -> Prop
 | nil : AreD8 K H [] []
 | cons {x xs d ds} : IsD8 K H x d -> AreD8 K H xs ds -> AreD8 K H (x :: xs) (d :: ds)
end
section
variable {X : Cx} {pins : List (Addr × Obj)} {σ : St} {H : Hp} {s : Shared}
mutual
theorem IsD8.reads (I : Inv X pins σ H s) : ∀ {v : V} {d : PyData}, IsD8 X.K H v d -> ∀ {u : Value}, RelV v u -> ∃ as, Reads s.heap u d as
 | _, _, .non, u, r => by cases (show u = Value.none from r); exact ⟨[], .none⟩
 | _, _, .bl b, u, r => by cases (show u = Value.bool b from r); exact ⟨[], .bool b⟩
 | _, _, .int i, u, r => by obtain ⟨t, e⟩ := (show ∃ t, u = Value.int i t from r); subst e; exact ⟨[], .int i t⟩
 | _, _, .str x, u, r => by obtain ⟨t, e⟩ := (show ∃ t, u = Value.str x t from r); subst e; exact ⟨[], .str x t⟩
 | _, _, .lst sq rs, u, r => by
  cases r
  obtain ⟨its, rv, p, _⟩ := I.list sq
  obtain ⟨as, ra⟩ := AreD8.reads I rs rv
  obtain ⟨o, ho, hc, n, hd⟩ := p.isList
  exact ⟨_, .list ho hc hd (by simpa using ra)⟩
 | _, _, .tup sq rs, u, r => by
  cases r
  obtain ⟨its, rv, p, _⟩ := I.tuple sq
  obtain ⟨as, ra⟩ := AreD8.reads I rs rv
  obtain ⟨o, ho, hc, n, hd⟩ := p
  exact ⟨_, .tuple ho hc hd (by simpa using ra)⟩
theorem AreD8.reads (I : Inv X pins σ H s) : ∀ {vs : List V} {ds : List PyData}, AreD8 X.K H vs ds -> ∀ {us : List Value}, Vals vs us -> ∃ as, ReadsAll s.heap us ds as
 | _, _, .nil, us, r => by cases r; exact ⟨[], .nil⟩
 | _, _, .cons h t, us, r => by
  cases r with
  | cons r1 r2 =>
   obtain ⟨a1, q1⟩ := IsD8.reads I h r1
   obtain ⟨a2, q2⟩ := AreD8.reads I t r2
   exact ⟨_, .cons q1 q2⟩
end
end
theorem op_eqD {X : Cx} (K : Frag) (hu : X.A.units + 64 < cLine) (hK : X.K = K := by rfl) : OpR X (compareOp .Eq) (fun x y H Q => ∃ d e, IsD8 K H x d /\ IsD8 K H y e /\ shaped d = true /\ shaped e = true /\ Q (.bl (PyData.eqv d e)) H) := by
 subst hK
 intro pins s σ H x y v u Q I rx ry h
 obtain ⟨d, e, h1, h2, s1, s2, q⟩ := h
 obtain ⟨as, ra⟩ := IsD8.reads I h1 rx
 obtain ⟨bs, rb⟩ := IsD8.reads I h2 ry
 exact eq_dataH ra rb s1 s2 hu ⟨.bl _, H, I, rfl, q⟩
mutual
inductive Al (K : Frag) (H : Hp) : Nat -> V -> V -> Prop
 | non {n} : Al K H n .non .non
 | bl {n} (b) : Al K H n (.bl b) (.bl b)
 | int {n} (i) : Al K H n (.int i) (.int i)
 | str {n} (x) : Al K H n (.str x) (.str x)
 | ref {n} (a) : Al K H n (.ref a) (.ref a)
 | lst {n a b xs ys} : SqL K H a xs -> SqL K H b ys -> Als K H n xs ys -> Al K H (n + 1) (.ref a) (.ref b)
inductive Als (K : Frag) (H : Hp) : Nat -> List V -> List V -> Prop
 | nil {n} : Als K H n [] []
 | cons {n x y xs ys} : Al K H n x y -> Als K H n xs ys -> Als K H n (x :: xs) (y :: ys)
end
theorem Als.length {K : Frag} {H : Hp} {n : Nat} : ∀ {xs ys : List V}, Als K H n xs ys -> xs.length = ys.length
 | _, _, .nil => rfl
 | _, _, .cons _ t => by simp [Als.length t]
section
variable {X : Cx} {pins : List (Addr × Obj)} {σ : St} {H : Hp} {s : Shared}
end
theorem pb_if {X : Cx} {c : Expr} {a b : List Stmt} {pos : Pos} {tc : TT} {ta tb : XK -> TS} (hc : PT X.nox c tc) (ha : PB X a ta) (hb : PB X b tb) : PB X [.If c a b pos] (fun E => tIfS tc (ta E) (tb E)) := by
 intro pins s σ H D E I h
 refine wpAny_execs_cons (wpAny_mono (Q := SP X pins D) (E := XP X pins σ E) (wpAny_If ?_) (fun f s1 q => ?_) fun _ _ z => z)
 ·refine wpAny_mono (hc pins s σ H _ (I.wish _) h) (fun d s1 ⟨H1, I1, q1⟩ => ?_) fun _ _ z => False.elim z
  cases d with
  | true => exact ha pins s1 σ H1 D E I1.unwish q1
  | false => exact hb pins s1 σ H1 D E I1.unwish q1
 ·cases f with
  | next => exact wpAny_execs_nil q
  | ret v => exact q
  | brk => exact q
  | cont => exact q
section
variable {X : Cx}
theorem za9 (K : Frag) (hu : X.A.units + 64 < cLine) (hK : X.K = K := by rfl) : OpR X (compareOp .Eq) (fun x y H Q => ∃ (a b : Addr) (xs : List V), x = .ref a /\ y = .ref b /\ SqL K H a xs /\ SqL K H b [] /\ Q (.bl xs.isEmpty) H) := by
 subst hK
 intro pins s σ H x y v u Q I rx ry h
 obtain ⟨a, b, xs, rfl, rfl, ha, hb, q⟩ := h
 cases rx
 cases ry
 have hu : X.A.units < cLine := Nat.lt_of_le_of_lt (Nat.le_add_right _ _) hu
 obtain ⟨its, r1, p1, _⟩ := I.list ha
 obtain ⟨jts, r2, p2, _⟩ := I.list hb
 cases r2
 cases xs with
 | nil =>
  cases r1
  exact SeqAt.eq_listAt (e := fun _ => true) p1.isList p2.isList rfl hu (fun j h1 h2 => by simp at h1) ⟨.bl true, H, I, rfl, q⟩
 | cons x xs =>
  have l := r1.length
  exact SeqAt.eq_list_lengthsAt p1.isList p2.isList (by simp at l ⊢; intro z; simp [z] at l) hu ⟨.bl false, H, I, rfl, q⟩
end
def hide (H : Hp) (D : Addr) : Hp := fun b => if b = D then none else H b
theorem hide_ne {H : Hp} {b D : Addr} (h : b ≠ D) : hide H D b = H b := by unfold hide; rw [if_neg h]
theorem hide_upd {H : Hp} {D : Addr} {o : HO} : hide (upd H D o) D = hide H D := by
 funext b; unfold hide
 by_cases h : b = D
 ·rw [if_pos h, if_pos h]
 ·rw [if_neg h, if_neg h, xa3 h]
theorem zc7 {H : Hp} {D : Addr} : Same (hide H D) H := fun b o e => by
 unfold hide at e
 by_cases h : b = D
 ·rw [if_pos h] at e; cases e
 ·rw [if_neg h] at e; exact e
theorem zc8 {H H' : Hp} {D : Addr} (s : Same H H') : Same (hide H D) (hide H' D) := fun b o e => by
 unfold hide at e ⊢
 by_cases h : b = D
 ·rw [if_pos h] at e; cases e
 ·rw [if_neg h] at e ⊢; exact s b o e
theorem comp_ob {α : Type} {K : Frag} {a D : Addr} {xs : List V} {us : List α} {g : TG} {te : TE} {σ0 : St} {H1 : Hp} {Q : Hp -> Prop} (R : α -> V -> Hp -> Prop) (ok : St -> Prop) (mono : ∀ H H' x v, Same H H' -> R x v H -> R x v H')
  (sq : SqL K H1 a xs) (hD : H1 D = none) (hz : xs.length <= 1000) (hlen : us.length = xs.length) (h0 : ok σ0)
  (hs : ∀ (i : Nat) x u σ' H (N : St -> V -> Hp -> Prop), xs[i]? = some x -> us[i]? = some u -> ok σ' -> Same H1 H -> (∃ ys, H D = some (.lst ys)) -> (∀ σ3 v H4, R u v (hide H4 D) -> Same H H4 -> ok σ3 -> N σ3 v H4) -> g x σ' H fun σ3 H3 => te σ3 H3 fun v H4 => N σ3 v H4)
  (hd : ∀ ys H', Same H1 H' -> H' D = some (.lst ys) -> Paired (fun v u => R u v H') ys us -> Q H') :
  ∃ W : Nat -> Nat -> St -> Hp -> Prop, (∃ m, W 0 m σ0 (upd H1 D (.lst []))) /\
   ∀ i m σ' H', W i m σ' H' -> ((Itl K a).stop i H' /\ Q H') \/ ((Itl K a).go i H' /\ ∀ x H2, (Itl K a).yld i H' x H2 -> g x σ' H2 fun σ3 H3 => te σ3 H3 fun v H4 => ∃ xs, H4 D = some (.lst xs) /\ xs.length < sizeLine /\ ∃ m', m' < m /\ W (i + 1) m' σ3 (upd H4 D (.lst (xs ++ [v])))) := by
 refine ⟨fun i m σ' H' => m = xs.length - i /\ i <= xs.length /\ ok σ' /\ Same H1 H' /\ ∃ ys, H' D = some (.lst ys) /\ Paired (fun v u => R u v (hide H' D)) ys (us.take i), ⟨xs.length, by simp, Nat.zero_le _, h0, Same.new hD, [], xa1, by rw [List.take_zero]; exact .nil⟩, ?_⟩
 rintro i m σ' H' ⟨rfl, hi, hok, hsm, ys, hy, hp⟩
 have sq' := hsm.seq sq
 have hyl : ys.length = i := by rw [Paired.length hp, List.length_take]; omega
 by_cases hlt : i < xs.length
 ·refine .inr ⟨⟨xs, xs[i], sq', by simp [hlt]⟩, fun x H2 y => ?_⟩
  obtain ⟨e, y⟩ := y
  subst e
  have hx := y xs sq'
  have hu : us[i]? = some us[i] := List.getElem?_eq_getElem (by omega)
  refine hs i x us[i] σ' _ (fun σ3 v H4 => ∃ xs', H4 D = some (.lst xs') /\ xs'.length < sizeLine /\ ∃ m', m' < xs.length - i /\ _) hx hu hok hsm ⟨_, hy⟩ fun σ3 v H4 r s4 ok3 => ?_
  refine ⟨ys, s4 _ _ hy, Nat.lt_of_lt_of_le (show ys.length < 1001 by omega) (by decide), xs.length - (i + 1), by omega, rfl, hlt, ok3, (hsm.trans s4).upd hD, ys ++ [v], xa1, ?_⟩
  rw [List.take_add_one, hu, hide_upd]
  exact Paired.snoc (Paired.mapP hp fun b w q => mono _ _ _ _ (zc8 s4) q) r
 ·have e : i = xs.length := by omega
  subst e
  rw [<- hlen, List.take_length] at hp
  exact .inl ⟨⟨xs, sq', Nat.le_refl _⟩, hd ys H' hsm hy (Paired.mapP hp fun b w q => mono _ _ _ _ zc7 q)⟩
theorem hu1 {A : Around} {k : Nat} (hr : Room k A) : A.units + 1 < cLine := Nat.lt_of_le_of_lt (Nat.add_le_add_left (by decide) _) hr.units
end L2
namespace LS
open PySem PySem.Spec PyProof.Rows L2
section
variable {prog : Program} {w : World} {A : Around} {E : Value -> Shared -> Prop} {s : Shared}
end
end LS
namespace L2
open PySem PySem.Spec PyProof.Rows LS
section
variable {X : Cx} {tg iter elt tst : Expr} {scope : Scope} {pos : Pos}
end
end L2
namespace LS
open PySem PySem.W PyProof.Rows
section
variable {prog : Program} {w : World} {A : Around} {E : Value -> Shared -> Prop} {s : Shared}
end
end LS
namespace L2
open PySem PySem.Spec PyProof.Rows LS
section
variable {X : Cx} {pins : List (Addr × Obj)} {σ : St} {H : Hp} {s : Shared}
end
end L2
namespace LS
open PySem PySem.W PyProof.Rows
theorem lay_led (t : SetTable) (es : Array (Int × Value)) (h : Int) (x : Value) : (layNew t es h x).2.1.led = t.led /\ (t.plain = false -> (layNew t es h x).2.1.plain = false) := by
 unfold layNew
 split
 ·rename_i slot wd _
  show ((t.put slot).1.orStandIn _).led = _ /\ (_ -> ((t.put slot).1.orStandIn _).plain = _)
  unfold SetTable.orStandIn
  split
  ·exact ⟨rfl, id⟩
  ·exact ⟨rfl, fun _ => rfl⟩
 ·exact ⟨rfl, fun _ => rfl⟩
theorem yy7 (t : SetTable) (es : Array (Int × Value)) (n : Nat) : (relayAll t es n).2.1.led = t.led /\ (t.plain = false -> (relayAll t es n).2.1.plain = false) := by
 unfold relayAll
 split
 ·rename_i t' order e
  dsimp only
  split
  ·have : t'.led = t.led /\ t'.plain = t.plain := by
    unfold SetTable.relaid SetTable.laid at e
    cases ho : SetTable.layClean (SetTable.sizeAbove n - 1) (es.map (·.1)) with
    | none => rw [ho] at e; cases e
    | some ow =>
     rw [ho] at e
     have e2 := congrArg (fun q : Option (SetTable × Array Nat) => q.map fun r => (r.1.led, r.1.plain)) e
     have e3 : (t.led, t.plain) = (t'.led, t'.plain) := Option.some.inj e2
     exact ⟨(congrArg Prod.fst e3).symm, (congrArg Prod.snd e3).symm⟩
   exact ⟨this.1, fun h => this.2.trans h⟩
  ·exact ⟨rfl, fun _ => rfl⟩
 ·exact ⟨rfl, fun _ => rfl⟩
def txt : Value -> Option Str
 | .str k _ => some k
 | _ => none
structure SetXAt (prog : Program) (w : World) (ks : List Str) (es : Array (Int × Value)) (t : SetTable) : Prop where
 el : ElemsOf (_root_.PySem.strKind prog w) es.toList
 tx : es.toList.map (fun e => txt e.2) = ks.map some
 fit : t.fits es.size = true
 fl : yg2 w es.size t
 len : ks.length <= 64
def SetX (prog : Program) (w : World) (h : Heap) (a : Addr) (ks : List Str) : Prop := ∃ o es ep t, h.get? a = some o /\ o.ExactSet /\ o.data = .set es ep t /\ SetXAt prog w ks es t
section
variable {prog : Program} {w : World} {A : Around} {E : Value -> Shared -> Prop} {s : Shared}
theorem SetXAt.size {ks : List Str} {es : Array (Int × Value)} {t : SetTable} (S : SetXAt prog w ks es t) : es.size = ks.length := by
 have := congrArg List.length S.tx
 simpa using this
theorem tail_x {g : Bool -> Sem Unit} (hg : ∀ (b : Bool) (s₁ : Shared) (Q' : Unit -> Shared -> Prop), Q' () s₁ -> wpAny (model prog w) A (g b) Q' E s₁)
  {a : Addr} {o : Obj} {es : Array (Int × Value)} {ep : Nat} {t : SetTable} (ho : s.heap.get? a = some o) (hex : o.ExactSet) (hd : o.data = .set es ep t)
  {es1 : Array (Int × Value)} {t2 : SetTable} {ks1 : List Str} (hel1 : ElemsOf (_root_.PySem.strKind prog w) es1.toList) (tx1 : es1.toList.map (fun e => txt e.2) = ks1.map some) (hl : ks1.length <= 64)
  (hf2 : t2.fits es1.size = true) (hpl : t2.plain = false) (hld : t2.led = !(w.params.followText "set-order")) {wasDummy : Bool} {R : Option Bool -> Shared -> Prop}
  (h : ∀ h' ks', Heap.SameBut a s.heap h' -> SetX prog w h' a ks' -> ks'.Perm ks1 -> R (some true) { s with heap := h' }) :
  wpAny (model prog w) A (do
    storeSet a es1 t2
    if (!wasDummy && t2.tooFull) = true then do
      g (relayAll t2 es1 (SetTable.grown es1.size)).2.2
      storeSet a (relayAll t2 es1 (SetTable.grown es1.size)).1 (relayAll t2 es1 (SetTable.grown es1.size)).2.1
      pure (some true)
     else pure (some true)) R E s := by
 have hsz : es1.size = ks1.length := by have := congrArg List.length tx1; simpa using this
 have hb1 : es1.size < scanBound := by rw [hsz]; exact Nat.lt_of_le_of_lt hl (by decide)
 refine wpAny_bind (wpAny_storeSet_of ho hd ?_ (fits_of_scanBound hb1))
 have ho1 := stored ho hd es1 t2
 have hsb1 := Heap.SameBut.update s.heap a (Obj.putSet es1 t2)
 split
 ·have hp := relayAll_perm t2 es1 (SetTable.grown es1.size)
  have hfr := relayAll_fits t2 es1 (SetTable.grown es1.size)
  have hlr := yy7 t2 es1 (SetTable.grown es1.size)
  generalize hRl : relayAll t2 es1 (SetTable.grown es1.size) = Rl at hp hfr hlr ⊢
  obtain ⟨es2, t3, gave2⟩ := Rl
  dsimp only at hp hfr hlr ⊢
  have hel2 : ElemsOf (_root_.PySem.strKind prog w) es2.toList := hel1.perm hp
  obtain ⟨ks2, tx2, pk⟩ : ∃ ks2 : List Str, es2.toList.map (fun e => txt e.2) = ks2.map some /\ ks2.Perm ks1 := by
   have p1 := hp.map (fun e => txt e.2)
   rw [tx1] at p1
   exact xf3 p1
  have hb2 : es2.size < scanBound := by
   have : es2.size = es1.size := by rw [<- Array.length_toList, hp.length_eq, Array.length_toList]
   rw [this]; exact hb1
  refine wpAny_bind (hg _ _ _ ?_)
  refine wpAny_bind (wpAny_storeSet_of ho1 rfl ?_ (fits_of_scanBound hb2))
  exact wpAny_pure (h _ ks2 (hsb1.trans (Heap.SameBut.update _ a _)) ⟨_, es2, _, t3, stored ho1 rfl es2 t3, hex, rfl, hel2, tx2, hfr, ⟨.inr (hlr.2 hpl), hlr.1.trans hld⟩, by rw [pk.length_eq]; exact hl⟩ pk)
 ·exact wpAny_pure (h _ ks1 hsb1 ⟨_, es1, _, t2, ho1, hex, rfl, hel1, tx1, hf2, ⟨.inr hpl, hld⟩, hl⟩ (.refl _))
theorem setx_add {a : Addr} {ks : List Str} {k : Str} {tk : Tok} {Q : Bool -> Shared -> Prop} (hS : SetX prog w s.heap a ks) (hl : ks.length < 64)
  (h : ∀ r h' ks', Heap.SameBut a s.heap h' -> SetX prog w h' a ks' -> (∀ y, y ∈ ks' ↔ y = k \/ y ∈ ks) -> ks'.length <= ks.length + 1 -> Q r { s with heap := h' }) :
  wpAny (model prog w) A (setAddHashed a (.str k tk) ((_root_.PySem.strKind prog w).hash k)) Q E s := by
 obtain ⟨o, es, ep, t, ho, hex, hd, S⟩ := hS
 have hel := S.el
 have htx := S.tx
 have hf := S.fit
 have hsz := S.size
 have hkey := strKind_is prog w k tk
 have hsc : (Value.str k tk).scannable = true := rfl
 have hb : es.size < scanBound := by rw [hsz]; exact Nat.lt_trans hl (by decide)
 unfold setAddHashed setAddHashedIn
 refine wpAny_holding (wpAny_bind (wpAny_setState_of ho hd hf ?_))
 dsimp only
 rw [byScan_of hsc hb hel]
 simp only [↓reduceIte]
 unfold setAddByScan
 refine wpAny_bind ?_
 refine wpAny_bind (wpAny_rule ?_)
 refine wpAny_bind (wpAny_setScan_of hkey ho hd hf hel ?_)
 cases hr : List.findIdx? (fun e => (_root_.PySem.strKind prog w).is k e.2) es.toList with
 | some j =>
  dsimp only
  obtain ⟨hj, hpj, _⟩ := List.findIdx?_eq_some_iff_getElem.mp hr
  have hin : k ∈ ks := by
   have : (some k : Option Str) ∈ ks.map some := by
    rw [<- htx]
    refine List.mem_map.mpr ⟨es.toList[j], List.getElem_mem hj, ?_⟩
    obtain ⟨t, e⟩ := Value.isStrOf_shape hpj
    show txt es.toList[j].2 = some k
    rw [e]; rfl
   simpa using this
  refine wpAny_pure (wpAny_pure ?_)
  have := h false s.heap ks (Heap.SameBut.refl a s.heap) ⟨o, es, ep, t, ho, hex, hd, S⟩ (fun y => ⟨.inr, fun q => q.elim (fun e => by rw [e]; exact hin) id⟩) (Nat.le_succ _)
  have e : s = { s with heap := s.heap } := (by cases s; rfl)
  rw [e]; exact this
 | none =>
  dsimp only
  have hgw : ∀ (b : Bool) {s₁ : Shared} {Q' : Unit -> Shared -> Prop}, Q' () s₁ -> wpAny (model prog w) A (match b with | true => rule "set.scan.the-table-gave-way" | false => pure ()) Q' E s₁ :=
   fun b s₁ Q' hq => by cases b <;> first | exact wpAny_pure hq | exact wpAny_rule hq
  have hperm := layNew_perm t es ((_root_.PySem.strKind prog w).hash k) (.str k tk)
  have hfits := layNew_fits t es ((_root_.PySem.strKind prog w).hash k) (.str k tk)
  have hled := lay_led t es ((_root_.PySem.strKind prog w).hash k) (.str k tk)
  generalize hL : layNew t es ((_root_.PySem.strKind prog w).hash k) (.str k tk) = L at hperm hfits hled ⊢
  obtain ⟨es1, t1, wasDummy, gave⟩ := L
  dsimp only at hperm hfits hled ⊢
  rw [Array.toList_push] at hperm
  have hel1 : ElemsOf (_root_.PySem.strKind prog w) es1.toList := (hel.push hkey hsc).perm hperm
  obtain ⟨ks1, tx1, pk⟩ : ∃ ks1 : List Str, es1.toList.map (fun e => txt e.2) = ks1.map some /\ ks1.Perm (ks ++ [k]) := by
   have p1 := hperm.map (fun e => txt e.2)
   rw [List.map_append, htx] at p1
   have p2 : (es1.toList.map fun e => txt e.2).Perm ((ks ++ [k]).map some) := by rw [List.map_append]; exact p1
   exact xf3 p2
  have hl1 : ks1.length = ks.length + 1 := by rw [pk.length_eq, List.length_append]; rfl
  have mem1 : ∀ y, y ∈ ks1 ↔ y = k \/ y ∈ ks := fun y => by
   rw [pk.mem_iff, List.mem_append, List.mem_singleton]; exact Or.comm
  have hlw : t1.led = !(w.params.followText "set-order") := hled.1.trans S.fl.2
  have pk0 : plainKind (Value.str k tk) = false := by simp [plainKind]
  have hend : ∀ h' ks', Heap.SameBut a s.heap h' -> SetX prog w h' a ks' -> ks'.Perm ks1 -> Q true { s with heap := h' } := fun h' ks' sb hx p =>
   h true h' ks' sb hx (fun y => by rw [p.mem_iff]; exact mem1 y) (by rw [p.length_eq, hl1]; exact Nat.le_refl _)
  refine wpAny_bind (hgw _ ?_)
  cases hp1 : t1.plain with
  | true =>
   simp only [↓reduceIte]
   refine wpAny_bind ?_
   rw [hashByValue_scannable 8 hsc, pk0]
   refine wpAny_pure ?_
   simp only [Bool.false_eq_true, ↓reduceIte]
   refine tail_x ?_ ho hex hd hel1 tx1 (by omega) (SetTable.fits_plain_off hfits) rfl hlw ?_
   ·intro b s₁ Q' hq; cases b <;> first | exact wpAny_pure hq | exact wpAny_rule hq
   ·intro h' ks' sb hx p; dsimp only; exact wpAny_pure (hend h' ks' sb hx p)
  | false =>
   simp only [Bool.false_eq_true, ↓reduceIte]
   refine wpAny_bind (wpAny_pure ?_)
   simp only [↓reduceIte]
   refine tail_x ?_ ho hex hd hel1 tx1 (by omega) hfits hp1 hlw ?_
   ·intro b s₁ Q' hq; cases b <;> first | exact wpAny_pure hq | exact wpAny_rule hq
   ·intro h' ks' sb hx p; dsimp only; exact wpAny_pure (hend h' ks' sb hx p)
end
section
variable {prog : Program} {w : World} {A : Around} {E : Value -> Shared -> Prop} {s : Shared} {R : Result -> Shared -> Prop}
theorem yv5 {S I p : Addr} {items : Array Value} {l : List Str} (hi : items.toList.map txt = l.map some) (hh : A.handled = none) (hIp : p ≠ I) (hSI : S ≠ I) (hSp : S ≠ p) (hll : l.length <= 60) :
  ∀ (k i : Nat) (s : Shared) (zs : List Str), l.length - i = k -> i <= l.length -> s.heap.IsListIter I p i /\ s.heap.IsList p items -> SetX prog w s.heap S zs -> (∀ y, y ∈ zs ↔ y ∈ l.take i) -> zs.length <= i ->
   (∀ s' zs', (∀ b o, b ≠ S -> b ≠ I -> s.heap.get? b = some o -> s'.heap.get? b = some o) -> s'.gens = s.gens -> s'.os = s.os -> s'.drawn = s.drawn -> SetX prog w s'.heap S zs' -> (∀ y, y ∈ zs' ↔ y ∈ l) -> zs'.length <= l.length -> R (.ok (.ret .none)) s') ->
   codeAny (model prog w) A (Code.builtin "set.update.loop" ⟨[.ref S, .ref I], []⟩) R s := by
 have W : WalksS prog w A.in1 I [I, p] [I] (fun a b => b = a) items.size (fun i v => items[i]? = some v) (fun i s => s.heap.IsListIter I p i /\ s.heap.IsList p items) := (Walks.list (A := A.in1) hh I p hIp items).toS
 have hn : items.size = l.length := by
  have := congrArg List.length hi
  simpa using this
 intro k
 induction k with
 | zero =>
  intro i s zs hk hil hst hS hF hz hR
  have hin : i = l.length := by omega
  subst hin
  refine codeAny_builtin PyProof.Rows.F.entry_set_update_loop ?_
  rw [Around.under_plainId PyProof.Rows.F.plain_set_update_loop _]
  show wpAny _ A.in1 (pyNext (.ref I) >>= _) _ _ s; refine wpAny_bind (W.done s _ _ (by rw [hn]; exact hst) fun s' hm => ?_)
  refine wpAny_pure (hR s' zs (fun b o _ hb e => hm.heap b o (by simpa using hb) e) hm.gens hm.os hm.drawn ?_ (by rw [List.take_length] at hF; exact hF) hz)
  obtain ⟨o, es, ep, t, h1, rest⟩ := hS
  exact ⟨o, es, ep, t, hm.heap _ _ (by simpa using hSI) h1, rest⟩
 | succ k ih =>
  intro i s zs hk hil hst hS hF hz hR
  have hlt : i < l.length := (by omega); refine codeAny_builtin PyProof.Rows.F.entry_set_update_loop ?_
  rw [Around.under_plainId PyProof.Rows.F.plain_set_update_loop _]
  show wpAny _ A.in1 (pyNext (.ref I) >>= _) _ _ s; refine wpAny_bind (W.item i s _ _ (by omega) hst fun v s' hP hst' hm => ?_)
  have hv : ∃ tk, v = Value.str l[i] tk := by
   have h1 : items.toList[i]? = some v := by rw [Array.getElem?_toList]; exact hP
   have h2 : (items.toList.map txt)[i]? = some (txt v) := by rw [List.getElem?_map, h1]; rfl
   rw [hi, List.getElem?_map, List.getElem?_eq_getElem hlt] at h2
   have h3 : some l[i] = txt v := Option.some.inj h2
   cases v with
   | str k t => exact ⟨t, by rw [show l[i] = k from Option.some.inj h3]⟩
   | _ => cases h3
  obtain ⟨tk, rfl⟩ := hv
  have kp : ∀ b o, b ≠ I -> s.heap.get? b = some o -> s'.heap.get? b = some o := fun b o hb e => hm.heap b o (by simpa using hb) e
  have hS' : SetX prog w s'.heap S zs := by
   obtain ⟨o, es, ep, t, h1, rest⟩ := hS
   exact ⟨o, es, ep, t, kp _ _ hSI h1, rest⟩
  show wpAny _ A.in1 (holding [Value.str l[i] tk] (setAdd S (.str l[i] tk)) >>= _) _ _ s'
  refine wpAny_bind (wpAny_holding ?_); unfold setAdd
  refine wpAny_holding ?_
  refine wpAny_bind (wpAny_pyHash_str ?_)
  refine setx_add (s := { s' with toks := s'.toks + 1 }) hS' (by omega) fun r h'' zs' sb hz' hmem hlen => ?_
  refine wpAny_pure ⟨plainId_quiet PyProof.Rows.F.plain_set_update_loop _, ih (i + 1) _ zs' (by omega) hlt ?_ hz' ?_ (by omega) ?_⟩
  ·exact W.frame (i + 1) s' h'' _ hst' (Nat.le_add_right _ _) fun b hb o e => by
    have ne : b ≠ S := by
     simp only [List.mem_cons, List.not_mem_nil, or_false] at hb; rcases hb with rfl | rfl
     ·exact Ne.symm hSI
     ·exact Ne.symm hSp
    exact (sb.2 b ne).trans e
  ·intro y
   rw [hmem y, hF y, List.take_succ, List.getElem?_eq_getElem hlt, Option.toList_some, List.mem_append, List.mem_singleton]
   exact Or.comm
  ·intro s'' zs'' k2 g2 o2 d2 hz2 hf2 hl2
   exact hR s'' zs'' (fun b o hb hbI e => k2 b o hb hbI ((sb.2 b hb).trans (kp b o hbI e))) (g2.trans hm.gens) (o2.trans hm.os) (d2.trans hm.drawn) hz2 hf2 hl2
theorem yw5 {p S : Addr} {items : Array Value} {l : List Str} {led : Bool} {Q : Unit -> Shared -> Prop} (hh : A.handled = none) (hled : led = !(w.params.followText "set-order")) (hS : s.heap.get? S = some (xb5 led)) (hp : s.heap.IsList p items) (hi : items.toList.map txt = l.map some) (hll : l.length <= 60)
  (h : ∀ s' zs, (∀ b o, b ≠ S -> s.heap.get? b = some o -> s'.heap.get? b = some o) -> s'.gens = s.gens -> s'.os = s.os -> s'.drawn = s.drawn -> SetX prog w s'.heap S zs -> (∀ y, y ∈ zs ↔ y ∈ l) -> zs.length <= l.length -> Q () s') :
  wpAny (model prog w) A (Builtin.Frozenset.updateFrom "set.__init__" S (.ref p)) Q E s := by
 have hT := hp.typeIs
 have hp0 := hp
 obtain ⟨op, hop, hcp, np, hdp⟩ := hp
 have hlt := Heap.lt_size hop
 have hSlt := Heap.lt_size hS
 unfold Builtin.Frozenset.updateFrom Builtin.Frozenset.isAnySet
 have q1 := PySem.F.sub_list_set
 have q2 := PySem.F.sub_list_frozenset
 have q3 : (Value.type "list" == Value.type "dict") = false := by decide
 generalize hPI : pyIter = PI
 wp_walk
 subst hPI
 refine wpAny_pyIter_list hp0 ?_
 refine wpAny_bind (wpAny_runValue ?_); generalize hoi : ({ cls := Value.type "list_iterator", data := Data.fields #[Value.ref p, Value.int 0 0] } : Obj) = oI
 have k1 : ∀ b o, s.heap.get? b = some o -> (s.heap.push oI).get? b = some o := fun b o e => Heap.get?_push_of_some _ e
 have ne : ∀ b o, s.heap.get? b = some o -> b ≠ s.heap.objs.size := fun b o e => Nat.ne_of_lt (Heap.lt_size e)
 have hSp : S ≠ p := by
  rintro rfl
  rw [hS] at hop
  cases hop
  cases hdp
 have fx : SetX prog w (s.heap.push oI) S [] := ⟨_, #[], 0, _, k1 _ _ hS, ⟨rfl, rfl, rfl⟩, rfl, fun e he => by simp at he, rfl, rfl, ⟨.inl (Nat.zero_le 1), hled⟩, Nat.zero_le _⟩
 refine yv5 (I := s.heap.objs.size) (p := p) (items := items) hi hh (Nat.ne_of_lt hlt) (Nat.ne_of_lt hSlt) hSp hll l.length 0 { s with heap := s.heap.push oI } [] (by omega) (Nat.zero_le _) ⟨⟨oI, Heap.get?_push_size _ (by rw [<- hoi]; rfl), by rw [<- hoi], by rw [<- hoi]; rfl⟩, ⟨op, k1 _ _ hop, hcp, np, hdp⟩⟩ fx (fun y => by simp) (Nat.zero_le _) fun s' zs' kp g o d hz hf hl => ?_
 refine wpAny_pure ?_
 exact h s' zs' (fun b ob hb e => kp b ob hb (ne _ _ e) (k1 _ _ e)) g o d hz hf hl
theorem sorted_x {S : Addr} {ks : List Str} {Q : Value -> Shared -> Prop} (hh : A.handled = none) (hS : SetX prog w s.heap S ks) (h64 : ks.length < 64)
  (h : ∀ s' l vs e ys, (∀ b ob, s.heap.get? b = some ob -> s'.heap.get? b = some ob) -> s'.gens = s.gens -> s'.os = s.os -> s.heap.objs.size <= l -> s'.heap.get? l = some (seqObj "list" vs e) -> StrsAre vs.toList ys -> ys.Perm ks -> Q (.ref l) s') :
  wpAny (model prog w) A (call (.builtin "sorted") [.ref S]) Q E s := by
 obtain ⟨o, es, ep, t, ho, hex, hd, Sx⟩ := hS
 have hsz := Sx.size
 refine Calls.call_function_entry kind_sorted plain_sorted entry_sorted (args_sorted1 _) ?_; unfold Builtin.«sorted»
 refine wpAny_bind (m := checkCount "sorted" 1 1 _) (wpAny_pure ?_)
 refine wpAny_bind (xy5 (A := A.in1) hh ho hex hd Sx.fit (by omega) Sx.fl (fun h1 => ?_) fun s1 vs k1 le1 g1 o1 hp => ?_)
 ·have : t.place.toList.length <= 1 := by
   have := Sx.fit
   unfold SetTable.fits at this
   simp only [Bool.and_eq_true, beq_iff_eq] at this
   rw [Array.length_toList]; omega
  match hl : t.place.toList, this with
  | [], _ => exact .nil
  | [x], _ => exact List.pairwise_singleton _ _
 have hvl : vs.length = ks.length := by rw [hp.length_eq, List.length_map, Array.length_toList, hsz]
 have hall : ∀ v ∈ vs, ∃ x t, v = Value.str x t := fun v hv => by
  obtain ⟨e, he, rfl⟩ := List.mem_map.mp (hp.mem_iff.mp hv)
  obtain ⟨⟨k, hk, _⟩, _⟩ := Sx.el e he
  obtain ⟨t, e⟩ := Value.isStrOf_shape hk
  exact ⟨k, t, e⟩
 have hA := strsAre_map vs hall
 have pks : (vs.map strOf).Perm ks := by
  have p1 := hp.map txt
  rw [List.map_map] at p1
  have e1 : vs.map txt = (vs.map strOf).map some := by
   rw [List.map_map]
   refine List.map_congr_left fun v hv => ?_
   obtain ⟨x, t, rfl⟩ := hall v hv
   rfl
  have e2 : es.toList.map (txt ∘ fun x => x.2) = ks.map some := Sx.tx
  rw [e1, e2] at p1
  obtain ⟨l, e, p⟩ := xf3 p1
  have : vs.map strOf = l := by
   have := congrArg (List.filterMap id) e
   simpa [List.filterMap_map] using this
  rw [this]; exact p
 refine wpAny_bind (wpAny_newList ?_ (by rw [hvl, sizeLine_eq]; omega))
 have hoL : (s1.heap.push (seqObj "list" vs.toArray 0)).get? s1.heap.objs.size = some (seqObj "list" vs.toArray 0) := Heap.get?_push_size _ rfl
 have hnone : s.heap.get? s1.heap.objs.size = none := by
  cases e : s.heap.get? s1.heap.objs.size with
  | none => rfl
  | some o => have := k1 _ _ e; rw [xj6] at this; cases this
 refine wpAny_bind (wpAny_holding (wpAny_call_entry slot_list_sort ⟨_, hoL, rfl⟩ entry_list_sort (list_sort_treeK (s := { s1 with heap := s1.heap.push (seqObj "list" vs.toArray 0) }) strKind_oneLt hoL hA.keysOf (fun v₁ v₂ rest e => keyKind_strs (by rw [<- e]; exact hA)) (by omega) fun st' hp' hs' => ⟨_, rfl, ?_⟩) (args_list_sort _)))
 obtain ⟨ss', a1, a2, a3⟩ := sorted_out_str hA hp' hs'
 obtain ⟨e, he⟩ := sortedHeap_at (out := (arrOf st').map (·.2)) hoL
 refine wpAny_pure ⟨_, rfl, h _ _ _ e ss' (fun b ob eb => ?_) g1 o1 le1 he a1 (a2.trans pks)⟩
 have ne : b ≠ s1.heap.objs.size := by rintro rfl; rw [hnone] at eb; cases eb
 have e1 : (s1.heap.push (seqObj "list" vs.toArray 0)).get? b = some ob := Heap.get?_push_of_some _ (k1 b ob eb)
 show (sortedHeap _ _ _ _).get? b = some ob
 rw [sortedHeap_old ne (Heap.lt_size e1)]
 exact e1
end
end LS
namespace L2
open PySem PySem.Spec PyProof.Rows LS
def setX (P : Program) (w : World) (a : Addr) (ks : List Str) : HO := .ext fun h => SetX P w h a ks
section
variable {X : Cx}
theorem setX_ok {P : Program} {w : World} {H' : Hp} {h : Heap} {a : Addr} {ks : List Str} (x : SetX P w h a ks) : xd4 P w H' h a (setX P w a ks) := by
 obtain ⟨o, es, ep, t, h1, h2⟩ := id x
 refine ⟨x, ⟨o, h1⟩, fun g1 g2 ⟨o', es', ep', t', q1, q⟩ k => ⟨o', es', ep', t', k _ q1, q⟩⟩
theorem setX_is {P : Program} {w : World} {H : Hp} {h : Heap} {a : Addr} {ks : List Str} (ok : HOk P w H h) (e : H a = some (setX P w a ks)) : SetX P w h a ks := (ok _ _ e).1
theorem yo8 : ∀ {ks : List Str} {its : List Value}, Vals (ks.map V.str) its -> its.map txt = ks.map some
 | [], its, rv => by rw [List.map_nil] at rv; cases rv; rfl
 | k :: ks, its, rv => by
  rw [List.map_cons] at rv
  cases rv with
  | cons r1 t1 =>
   obtain ⟨t, e⟩ := r1
   subst e
   rw [List.map_cons, yo8 t1]; rfl
theorem yg5 : ∀ {ks : List Str} {its : List Value}, StrsAre its ks -> Vals (ks.map V.str) its
 | _, _, .nil => .nil
 | _, _, .cons x t h => .cons ⟨t, rfl⟩ (yg5 h)
theorem yk6 (hc : X.calm = true) : xi1 X (.type "set") (fun xs H Q => ∃ (l : Addr) (ks : List Str), xs = [V.ref l] /\ H l = some (.lst (ks.map V.str)) /\ ks.length <= 60 /\
  ∀ p zs, H p = none -> (∀ y, y ∈ zs ↔ y ∈ ks) -> zs.length <= ks.length -> Q (.ref p) (upd H p (setX X.prog X.w p zs))) := by
 intro pins s σ H xs us Q I r h
 obtain ⟨l, ks, rfl, hl, hn, q⟩ := h
 obtain ⟨u, rfl, rx⟩ := xq0 r
 cases rx
 refine yy4 fun led A' hled hA hH => ?_
 have k0 : ∀ b o, s.heap.get? b = some o -> (s.heap.push (xb5 led)).get? b = some o := fun b o e => Heap.get?_push_of_some _ e
 have hS : (s.heap.push (xb5 led)).get? s.heap.objs.size = some (xb5 led) := Heap.get?_push_size _ rfl
 have I0 : Inv X pins σ H { s with heap := s.heap.push (xb5 led) } := I.kept (t' := s.toks) k0
 obtain ⟨_, its, n, rv, e1⟩ := (show xd4 X.prog X.w H _ l (.lst (ks.map V.str)) from I0.hok l _ hl)
 refine yw5 (s := { s with heap := s.heap.push (xb5 led) }) (p := l) (items := its.toArray) (l := ks) (by rw [hH]; exact I.ok.hd hc) hled hS ⟨_, e1, rfl, _, rfl⟩ (by simpa using yo8 rv) hn fun s' zs kp g o d hz hf hle => ?_
 have nS : s.heap.get? s.heap.objs.size = none := xj6 _
 have keep : ∀ b o, s.heap.get? b = some o -> s'.heap.get? b = some o := fun b o e => kp b o (by rintro rfl; rw [nS] at e; cases e) (k0 b o e)
 have I1 : Inv X pins σ (upd H s.heap.objs.size (setX X.prog X.w s.heap.objs.size zs)) { s with heap := s'.heap, toks := s'.toks } := I.laid (t' := s'.toks) keep (Nat.le_refl _) (setX_ok hz)
 have es : s' = { ({ s with heap := s'.heap, toks := s'.toks } : Shared) with drawn := s'.drawn } := by
  cases s'
  simp only at g o ⊢
  rw [g, o]
 refine ⟨.ref s.heap.objs.size, _, ?_, rfl, q _ zs (I.hok.fresh (Nat.le_refl _)) hf hle⟩
 rw [es]
 exact I1.redrawn _
theorem yc9 (hc : X.calm = true) : xi1 X (.builtin "sorted") (fun xs H Q => ∃ a zs, xs = [V.ref a] /\ H a = some (setX X.prog X.w a zs) /\ zs.length < 64 /\ ∀ (p : Addr) (ys : List Str), H p = none -> ys.Perm zs -> Q (.ref p) (upd H p (.lst (ys.map V.str)))) := by
 intro pins s σ H xs us Q I r h
 obtain ⟨a, zs, rfl, ha, hn, q⟩ := h
 obtain ⟨u, rfl, rx⟩ := xq0 r
 cases rx
 refine sorted_x (I.ok.hd hc) (setX_is I.hok ha) hn fun s' l vs e ys keep hg hos hl hol hA hp => ?_
 have hlen : ys.length = zs.length := hp.length_eq
 have I1 : Inv X pins σ (upd H l (.lst (ys.map V.str))) { s with heap := s'.heap, toks := s'.toks } := I.laid (t' := s'.toks) keep hl ⟨xd7 (by rw [List.length_map, hlen]; omega), vs.toList, e, yg5 hA, by rw [hol]⟩
 have es : s' = { ({ s with heap := s'.heap, toks := s'.toks } : Shared) with drawn := s'.drawn } := by
  cases s'
  simp only at hg hos ⊢
  rw [hg, hos]
 refine ⟨.ref l, _, ?_, rfl, q l ys (I.hok.fresh hl) hp⟩
 rw [es]
 exact I1.redrawn _
end
end L2
namespace LS
open PySem PySem.W PyProof.Rows
section
variable {prog : Program} {w : World} {A : Around} {E : Value -> Shared -> Prop} {s : Shared}
theorem yo0 {id : String} {d k : Addr} {o ok : Obj} {e : DictEntry} {ep : Nat} {Q : Array DictEntry -> Shared -> Prop} (ho : s.heap.get? d = some o) (hd : o.data = .dict #[e] ep) (he : e.key = .ref k) (hk : s.heap.get? k = some ok) (hc : ok.cls = .type "tuple")
  (h : Q #[e] s) : wpAny (model prog w) A (Builtin.Dict.entriesForEmpty id d) Q E s := by
 unfold Builtin.Dict.entriesForEmpty
 refine wpAny_bind (wpAny_dictEntries ho hd ?_)
 refine wpAny_bind ?_
 rw [<- Array.forIn_toList]
 show wpAny _ _ (forIn [e] PUnit.unit _) _ _ _
 rw [List.forIn_cons]
 refine wpAny_bind (wpAny_bind ?_)
 rw [he]
 unfold Builtin.Dict.quietEq
 refine wpAny_bind (wpAny_specialOf ⟨ok, hk, hc⟩ F.slot_tuple_eq.lookup (wpAny_pure ?_))
 rw [if_pos (by decide), if_neg (by simp)]
 refine wpAny_pure ?_
 show wpAny _ _ (forIn [] _ _) _ _ _
 rw [List.forIn_nil]
 exact wpAny_pure (wpAny_pure h)
theorem dict_one {d k : Addr} {o ok : Obj} {e : DictEntry} {ep : Nat} {Q : Value -> Shared -> Prop} (hoS : (d == sysModules) = false) (ho : s.heap.get? d = some o) (hex : o.ExactDict) (hd : o.data = .dict #[e] ep) (he : e.key = .ref k) (hk : s.heap.get? k = some ok) (hc : ok.cls = .type "tuple")
  (h : ∀ h' o' ep', h'.get? s.heap.objs.size = some o' -> o'.ExactDict -> o'.data = .dict #[e] ep' -> Heap.SameBut s.heap.objs.size (s.heap.push { cls := .type "dict", data := .dict #[] }) h' -> Q (.ref s.heap.objs.size) { s with heap := h' }) :
  wpAny (model prog w) A (call (.type "dict") [.ref d]) Q E s := by
 refine callType_codes (Q₁ := fun obj s₁ => obj = .ref s.heap.objs.size /\ s₁ = { s with heap := s.heap.push { cls := .type "dict", data := .dict #[] } }) F.kt_called_dict (F.kt_typeCall_dict_1 _) F.entry_dict_init (kt_code_dict_new _ ⟨rfl, rfl⟩) ?_
 rintro obj s₁ ⟨rfl, rfl⟩
 have hnew : (s.heap.push { cls := .type "dict", data := .dict #[] }).get? s.heap.objs.size = some { cls := .type "dict", data := .dict #[] } := Heap.get?_push_size _ rfl
 have ho' : (s.heap.push { cls := .type "dict", data := .dict #[] }).get? d = some o := Heap.get?_push_of_some _ ho
 have hk' : (s.heap.push { cls := .type "dict", data := .dict #[] }).get? k = some ok := Heap.get?_push_of_some _ hk
 have hdo : s.heap.objs.size ≠ d := Nat.ne_of_gt (Heap.lt_size ho)
 have hT : Shared.TypeIs { s with heap := s.heap.push { cls := .type "dict", data := .dict #[] } } (.ref d) "dict" := ⟨o, ho', hex.1⟩
 have hTn : Shared.TypeIs { s with heap := s.heap.push { cls := .type "dict", data := .dict #[] } } (.ref s.heap.objs.size) "dict" := ⟨_, hnew, rfl⟩
 refine ⟨hTn, F.args_dict_init_2 _ _, ?_⟩
 unfold Builtin.«dict.__init__»
 refine wpAny_bind ?_
 unfold Builtin.Dict.selfAndRest
 refine wpAny_bind (wpAny_notOrdered_dict hTn ?_)
 show wpAny _ _ (pure (s.heap.objs.size, [Value.ref d])) _ _ _
 refine wpAny_pure ?_
 show wpAny _ _ (Builtin.Dict.updateFrom "dict.__init__" s.heap.objs.size (.ref d) [] .none) _ _ _
 unfold Builtin.Dict.updateFrom
 refine wpAny_bind (wpAny_typeOf hT ?_)
 rw [if_neg (by decide)]
 refine wpAny_bind ?_
 unfold Builtin.Dict.merge
 refine wpAny_bind ?_
 unfold Builtin.Dict.readDirectly
 refine wpAny_bind (wpAny_isInstance hT isSubtype_dict_dict ?_)
 simp only [Bool.not_true, Bool.false_eq_true, if_false]
 refine wpAny_bind (wpAny_specialOf hT F.slot_dict_iter.lookup (wpAny_pure ?_))
 simp only [beq_self_eq_true, if_true]
 refine wpAny_bind (wpAny_pure ?_)
 unfold Builtin.Dict.mergeDict
 rw [if_neg (by simpa using hdo)]
 unfold Builtin.Dict.showsAll
 rw [if_neg (by rw [hoS]; exact Bool.false_ne_true)]
 refine wpAny_bind (wpAny_pure ?_)
 refine wpAny_bind (wpAny_dictEntries ho' hd ?_)
 have few : ((#[e] : Array DictEntry).all fun e => (keyPart e.key).isSome) = false := by simp [he, keyPart]
 dsimp only
 rw [few, Bool.and_false]
 simp only [Bool.not_false, if_true]
 refine wpAny_bind (wpAny_dictEntries hnew rfl ?_)
 rw [if_pos (by rfl)]
 refine wpAny_bind (yo0 ho' hd he hk' hc ?_)
 rw [if_pos (by rfl)]
 refine wpAny_bind (wpAny_updateDictKeysTo hnew rfl (wpAny_pure ?_) (by show 1 <= _; rw [sizeLine_eq]; decide))
 show wpAny _ _ (Builtin.Dict.addKeywords s.heap.objs.size [] >>= _) _ _ _
 exact wpAny_bind (wpAny_pure (wpAny_pure ⟨rfl, h _ _ _ (Heap.get?_update_self _ hnew (Obj.isFreed_of_dict (Obj.data_mapDictKeys rfl _))) (Obj.ExactDict.mapDictKeys ⟨rfl, rfl, rfl⟩ _) (Obj.data_mapDictKeys rfl _) (Heap.SameBut.update ..)⟩))
end
end LS
namespace L2
open PySem PySem.Spec PyProof.Rows LS
section
variable {X : Cx}
def tDisp1 (tk tv : TE) : TE := fun σ H Q => ∀ p, H p = none -> tk σ (upd H p (.dT [])) fun y H1 => tv σ H1 fun v H2 => ∃ k b, y = .ref b /\ H2 b = some (.tup (k.map kV)) /\ H2 p = some (.dT []) /\ Q (.ref p) (upd H2 p (.dT [(k, v)]))
theorem yp9 {pos : Pos} {k v : Expr} {tk tv : TE} (hu : X.A.units + 1 < cLine) (hk : PE X k tk) (hv : PE X v tv) : PE X (.Dict [some k] [v] pos) (tDisp1 tk tv) := by
 intro pins s σ H Q I q
 have hn := I.hok.fresh (Nat.le_refl s.heap.objs.size)
 have I1 := I.laid (a := s.heap.objs.size) (o := .dT []) (h' := s.heap.push { cls := .type "dict", data := .dict #[] }) (t' := s.toks) (fun _ _ q => Heap.get?_push_of_some _ q) (Nat.le_refl _) (yr3 s.heap I.big)
 refine wpAny_Dict_any rfl rfl (by simp) (by show 1 <= 15; decide) ?_
 refine pairTrees_cons_walk (thn (hk pins _ σ _ _ I1 (q _ hn)) fun u s1 ⟨y, H1, I2, ry, q1⟩ => thn (hv pins s1 σ H1 _ I2 q1) fun r s2 ⟨v, H2, I3, rv, kk, b, ey, eb, ep, q2⟩ => pairTrees_nil_walk ?_)
 subst ey
 cases (show u = Value.ref b from ry)
 obtain ⟨z, hd, xs, rel, dd⟩ := dt_of I3.hok ep
 have hz : xs.length <= sizeLine := by rw [<- Paired.length rel]; exact z
 unfold storeAll
 rw [List.forIn_cons]
 refine wpAny_bind (wpAny_bind (wpAny_dictSet_heap (hsz := hz) (show X.A.units < cLine by omega) (yc3 I3.hok eb) dd fun h' dd' hs => wpAny_pure ?_))
 show wpAny _ _ (forIn [] _ _) _ _ _
 rw [List.forIn_nil]
 refine wpAny_pure ⟨.ref s.heap.objs.size, _, ?_, rfl, q2⟩
 have e1 : putK ([] : List (List Key × V)) kk v = [(kk, v)] := yd6 v rfl
 obtain ⟨qo, es, epo, hq, h2, h3, h4, _, h5⟩ := dd'
 rw [<- e1]
 refine yo1 I3 (by rw [ep]; exact True.intro) hs ⟨qo, hq⟩ ⟨by rw [e1]; show 1 <= _; rw [sizeLine_eq]; decide, hd, _, (rel.put kk eb rv).keeps fun c ys ec => ?_, qo, es, epo, hq, h2, h3, h4, h5⟩
 rw [xa3 (xk0 ec ep (fun z => nomatch z))]
 exact ec
theorem yd0 : xi1 X (.type "dict") (fun xs H Q => ∃ d kvs, xs = [V.ref d] /\ H d = some (.dT kvs) /\ kvs.length <= 1 /\ ∀ p, H p = none -> Q (.ref p) (upd H p (.dT kvs))) := by
 intro pins s σ H xs us Q I r h
 obtain ⟨d, kvs, rfl, hd, hl, q⟩ := h
 cases kvs with
 | nil => exact yw2 pins s σ H _ _ Q I r ⟨d, rfl, hd, q⟩
 | cons kv rest =>
  have : rest = [] := by cases rest with | nil => rfl | cons a b => simp at hl
  subst this
  obtain ⟨u, rfl, rx⟩ := xq0 r
  cases rx
  obtain ⟨z1, z2, ys, rel, o, es, ep, h1, h2, h3, h4, h5⟩ := (show xd4 X.prog X.w H s.heap d (.dT [kv]) from I.hok d _ hd)
  obtain ⟨y, rfl, hy⟩ : ∃ y, ys = [y] /\ H y.2.1 = some (.tup (kv.1.map kV)) := by
   cases rel with
   | cons hq t => cases t; exact ⟨_, rfl, hq.2.1⟩
  have he : es = #[entryOfKey (tupleKind (xd6 X.prog X.w)) y] := by cases es; simpa using h4
  subst he
  obtain ⟨_, its, rv, ok, k1, k2, n, k3⟩ := (show xd4 X.prog X.w H s.heap y.2.1 (.tup (kv.1.map kV)) from I.hok _ _ hy)
  refine dict_one z2 h1 h2 h3 (k := y.2.1) rfl k1 k2 fun h' o' ep' g1 g2 g3 hs => ?_
  have keep : ∀ b ob, s.heap.get? b = some ob -> h'.get? b = some ob := fun b ob hb => (hs.2 b (Nat.ne_of_lt (Heap.lt_size hb))).trans (Heap.get?_push_of_some _ hb)
  have hn := I.hok.fresh (Nat.le_refl s.heap.objs.size)
  refine ⟨.ref s.heap.objs.size, _, I.laid (o := .dT [kv]) (t' := s.toks) keep (Nat.le_refl _) ⟨z1, beq_eq_false_iff_ne.mpr (Ne.symm (Nat.ne_of_lt I.big)), [y], KT.keeps (show KT H [kv] [y] from rel) fun b zs e => ?_, o', _, ep', g1, g2, g3, h4, h5⟩, rfl, q _ hn⟩
  rw [xa3 (xa7 e hn)]; exact e
end
theorem for_held {d : Addr} {o : Obj} {vs : List V} {g : TG} {tb : TS} {D : Ends} {σ : St} {H : Hp} (Pv : Nat -> St -> Hp -> Prop) (h0 : Pv 0 σ H) (hl : ∀ i σ H, i <= vs.length -> Pv i σ H -> H d = some (held d o))
  (hs : ∀ i v σ H, vs[i]? = some v -> Pv i σ H -> g v σ H fun σ2 H2 => tb { D with nx := Pv (i + 1), ct := Pv (i + 1), bk := D.nx } σ2 H2) (hd : ∀ σ H, Pv vs.length σ H -> D.nx σ H) :
  ∃ W : Nat -> Nat -> St -> Hp -> Prop, (∃ m, W 0 m σ H) /\ ∀ i m σ H, W i m σ H ->
   ((Itd d o vs).stop i H /\ D.nx σ H) \/ ((Itd d o vs).go i H /\ ∃ N : St -> Hp -> Prop, (∀ σ' H', N σ' H' -> ∃ m', m' < m /\ W (i + 1) m' σ' H') /\ ∀ v H', (Itd d o vs).yld i H v H' -> g v σ H' fun σ2 H2 => tb { D with nx := N, ct := N, bk := D.nx } σ2 H2) := by
 refine ⟨fun i m σ H => m = vs.length - i /\ i <= vs.length /\ Pv i σ H, ⟨vs.length, by simp, Nat.zero_le _, h0⟩, ?_⟩
 rintro i m σ H ⟨rfl, hi, p⟩
 have qd := hl i σ H hi p
 by_cases hlt : i < vs.length
 ·refine .inr ⟨⟨qd, hlt⟩, Pv (i + 1), fun σ' H' p' => ⟨vs.length - (i + 1), by omega, rfl, hlt, p'⟩, fun v H' y => ?_⟩
  obtain ⟨e, hv⟩ := y
  subst e
  exact hs i v σ _ hv p
 ·have e : i = vs.length := by omega
  subst e
  exact .inl ⟨⟨qd, Nat.le_refl _⟩, hd σ H p⟩
theorem yj9 {d : Addr} {o : Obj} {ks vs : List V} {g : TG} {tb : TS} {D : Ends} {σ : St} {H : Hp} (Pv : Nat -> St -> Hp -> Prop) (h0 : Pv 0 σ H) (hl : ∀ i σ H, i <= ks.length -> Pv i σ H -> H d = some (held d o))
  (hs : ∀ i k v p σ H, ks[i]? = some k -> vs[i]? = some v -> Pv i σ H -> H p = none -> g (.ref p) σ (upd H p (.tup [k, v])) fun σ2 H2 => tb { D with nx := Pv (i + 1), ct := Pv (i + 1), bk := D.nx } σ2 H2) (hd : ∀ σ H, Pv ks.length σ H -> D.nx σ H) :
  ∃ W : Nat -> Nat -> St -> Hp -> Prop, (∃ m, W 0 m σ H) /\ ∀ i m σ H, W i m σ H ->
   ((Itp d o ks vs).stop i H /\ D.nx σ H) \/ ((Itp d o ks vs).go i H /\ ∃ N : St -> Hp -> Prop, (∀ σ' H', N σ' H' -> ∃ m', m' < m /\ W (i + 1) m' σ' H') /\ ∀ v H', (Itp d o ks vs).yld i H v H' -> g v σ H' fun σ2 H2 => tb { D with nx := N, ct := N, bk := D.nx } σ2 H2) := by
 refine ⟨fun i m σ H => m = ks.length - i /\ i <= ks.length /\ Pv i σ H, ⟨ks.length, by simp, Nat.zero_le _, h0⟩, ?_⟩
 rintro i m σ H ⟨rfl, hi, p⟩
 have qd := hl i σ H hi p
 by_cases hlt : i < ks.length
 ·refine .inr ⟨⟨qd, hlt⟩, Pv (i + 1), fun σ' H' p' => ⟨ks.length - (i + 1), by omega, rfl, hlt, p'⟩, fun v H' y => ?_⟩
  obtain ⟨r, k, v', e, hr, h1, h2, e2⟩ := y
  subst e e2
  exact hs i k v' r σ _ h1 h2 p hr
 ·have e : i = ks.length := by omega
  subst e
  exact .inl ⟨⟨qd, Nat.le_refl _⟩, hd σ H p⟩
def Ite (K : Frag) (l : Addr) : It := ⟨fun i H => ∃ xs x, SqL K H l xs /\ xs[i]? = some x,
 fun i H v H' => ∃ p x, v = .ref p /\ H p = none /\ (∀ xs, SqL K H l xs -> xs[i]? = some x) /\ H' = upd H p (.tup [.int i, x]),
 fun i H => ∃ xs, SqL K H l xs /\ xs.length <= i⟩
def EnSt (e it l : Addr) (i : Nat) (h : Heap) : Prop := (∃ old, IsEnum h e it i old) /\ h.IsListIter it l i
theorem yw8 {P : Program} {w : World} {K : Frag} {elts : List Expr} {x1} {tpos : Pos} {e it l : Addr} (ne : it ≠ e) : Turn P w K (.Tuple elts x1 tpos) (Ite K l) [e, it] e (EnSt e it l) where
 mem := by simp
 obj := fun i h st b hb => by
  obtain ⟨⟨old, he⟩, ⟨o1, e1, c1, d1⟩⟩ := st
  simp only [List.mem_cons, List.not_mem_nil, or_false] at hb
  rcases hb with rfl | rfl
  ·exact ⟨_, he, fun v z => by cases z⟩
  ·exact ⟨_, e1, fun v z => by rw [d1] at z; cases z⟩
 keep := fun i h h' st k => by
  obtain ⟨⟨old, he⟩, ⟨o1, e1, c1⟩⟩ := st
  exact ⟨⟨old, k _ (by simp) _ he⟩, ⟨o1, k _ (by simp) _ e1, c1⟩⟩
 item := by
  intro X hP hw hK hc i pins s σ H E I hf st hg
  subst hP hw hK
  obtain ⟨xs, x, q1, hx⟩ := hg
  obtain ⟨its, rv, p1, _⟩ := I.list q1
  obtain ⟨u, hu, ru⟩ := rv.get hx
  obtain ⟨⟨old, he⟩, hit⟩ := st
  refine wpAny_pyNext_enum_item he hit p1.isList (x := u) (by simpa using hu) (Ne.symm ne) fun h' a1 a2 a3 a4 a5 => ?_
  refine ⟨_, rfl, wpAny_letOwnedTupleGo_enum (s := { s with heap := h', toks := s.toks + 1 }) a1 fun h2 b1 sb => ?_⟩
  have sb : Heap.SameBut e h' h2 := sb
  have hn : H s.heap.objs.size = none := I.hok.fresh (Nat.le_refl _)
  have I1 : Inv X pins σ H { s with heap := h2, toks := s.toks + 1 } := Inv.turnedL (t' := s.toks + 1) [e, it] I (fun b o hb q => (sb.2 b (fun z => hb (by simp [z]))).trans (a5 b o (fun z => hb (by simp [z])) (fun z => hb (by simp [z])) q)) hf
  have ht : h2.get? s.heap.objs.size = some { cls := .type "tuple", data := .seq #[.int i s.toks, u] } := (sb.2 _ (Nat.ne_of_gt (Heap.lt_size he))).trans a3
  refine ⟨.ref s.heap.objs.size, upd H s.heap.objs.size (.tup [.int i, x]), ?_, rfl, ⟨_, x, rfl, hn, fun zs q => by rw [I.list_inj q q1]; exact hx, rfl⟩, ?_, fun b hb => ?_⟩
  ·exact I1.trackF (I.fpOk (Nat.le_refl _) hn) I.sz ⟨by show 2 <= sizeLine; decide, [.int i s.toks, u], .cons ⟨s.toks, rfl⟩ (.cons ru .nil), _, ht, rfl, _, rfl⟩
  ·obtain ⟨o1, e1, c1⟩ := a2
   exact ⟨⟨u, b1⟩, ⟨o1, (sb.2 _ ne).trans e1, c1⟩⟩
  ·have old : b ≠ s.heap.objs.size := by
    obtain ⟨o1, e1, c1⟩ := hit
    simp only [List.mem_cons, List.not_mem_nil, or_false] at hb
    rcases hb with rfl | rfl
    ·exact Nat.ne_of_lt (Heap.lt_size he)
    ·exact Nat.ne_of_lt (Heap.lt_size e1)
   rw [xa3 old]; exact (hf b hb).1
 done := by
  intro X hP hw hK hc i pins s σ H E I hf st hg
  subst hP hw hK
  obtain ⟨xs, q1, hend⟩ := hg
  obtain ⟨its, rv, p1, _⟩ := I.list q1
  obtain ⟨⟨old, he⟩, hit⟩ := st
  have r1 := rv.length
  refine wpAny_pyNext_enum_end (I.ok.hd hc) he hit p1.isList (Array.getElem?_eq_none (by simp; omega)) fun h' k => ⟨rfl, Inv.turnedL (t' := s.toks) [e, it] I (fun b o hb q => k b o (fun z => hb (by simp [z])) q) hf⟩
 self := fun _ _ _ _ _ st h => by
  obtain ⟨⟨old, he⟩, _⟩ := st
  exact wpAny_pyIter_enum he h
def iEnum (K : Frag) (ta : TA) : TI := fun σ H R => ta σ H fun vs H1 => ∃ a xs, vs = [.ref a] /\ SqL K H1 a xs /\ R (Ite K a) H1
theorem ya5 : bootBuiltins "enumerate" = Option.some (Value.type "enumerate") := by decide +kernel
theorem yz6 {X : Cx} {elts : List Expr} {x1} {tpos : Pos} {a : Expr} {ta : TA} {p pos : Pos} (K : Frag) (hg : Gl X "enumerate") (hm : X.mg "enumerate" = none) (ha : PA X [a] ta) (hK : X.K = K := by rfl) (he : starEach [a] X.env = (false, eval a X.env) :: starEach [] X.env := by rfl) (hp : (backTo pos (starEach [] X.env)).any (·.1) = false := by rfl) :
  PI X (.Tuple elts x1 tpos) (.Call (.Name "enumerate" p) [a] [] pos) (iEnum K ta) := by
 subst hK
 intro pins s σ H R I h
 refine wpAny_Call_Name_kw (yc0 I hg hm ya5 (PyProof.Rows.callWith_type1 (thn (ha pos pins s σ H _ I h) fun us s1 ⟨vs, H1, I1, r1, q1⟩ => ?_) he hp))
 obtain ⟨l1, xs, e, q1, q⟩ := q1
 subst e
 obtain ⟨u, rfl, r⟩ := xq0 r1
 cases r
 obtain ⟨its, rv, p1, _⟩ := I1.list q1
 refine call_enumerate_list p1.isList fun h' a1 a2 a3 a4 => ?_
 refine wpAny_pyIter_enum (s := { s1 with heap := h' }) a1 ⟨s1.heap.objs.size + 1, [s1.heap.objs.size + 1, s1.heap.objs.size], _, _, H1, rfl, I1.kept (t' := s1.toks) a4, yw8 (l := l1) (Nat.ne_of_lt (Nat.lt_succ_self _)), ⟨⟨_, a1⟩, a2⟩, fun c hc => ?_, q⟩
 have big : s1.heap.objs.size <= c := by
  simp only [List.mem_cons, List.not_mem_nil, or_false] at hc
  rcases hc with e | e <;> (rw [e]; first | exact Nat.le_add_right _ _ | exact Nat.le_refl _)
 exact I1.fpOk big (I1.hok.fresh big)
theorem yr0 {K : Frag} {a : Addr} {xs : List V} {g : TG} {tb : TS} {D : Ends} {σ : St} {H : Hp} (Pv : Nat -> St -> Hp -> Prop) (h0 : Pv 0 σ H) (hl : ∀ i σ H, i <= xs.length -> Pv i σ H -> SqL K H a xs)
  (hs : ∀ i x p σ H, xs[i]? = some x -> Pv i σ H -> H p = none -> g (.ref p) σ (upd H p (.tup [.int i, x])) fun σ2 H2 => tb { D with nx := Pv (i + 1), ct := Pv (i + 1), bk := D.nx } σ2 H2) (hd : ∀ σ H, Pv xs.length σ H -> D.nx σ H) :
  ∃ W : Nat -> Nat -> St -> Hp -> Prop, (∃ m, W 0 m σ H) /\ ∀ i m σ H, W i m σ H ->
   ((Ite K a).stop i H /\ D.nx σ H) \/ ((Ite K a).go i H /\ ∃ N : St -> Hp -> Prop, (∀ σ' H', N σ' H' -> ∃ m', m' < m /\ W (i + 1) m' σ' H') /\ ∀ v H', (Ite K a).yld i H v H' -> g v σ H' fun σ2 H2 => tb { D with nx := N, ct := N, bk := D.nx } σ2 H2) := by
 refine ⟨fun i m σ H => m = xs.length - i /\ i <= xs.length /\ Pv i σ H, ⟨xs.length, by simp, Nat.zero_le _, h0⟩, ?_⟩
 rintro i m σ H ⟨rfl, hi, p⟩
 have qa := hl i σ H hi p
 by_cases hlt : i < xs.length
 ·refine .inr ⟨⟨xs, xs[i], qa, by simp [hlt]⟩, Pv (i + 1), fun σ' H' p' => ⟨xs.length - (i + 1), by omega, rfl, hlt, p'⟩, fun v H' y => ?_⟩
  obtain ⟨r, x, e, hr, h1, e2⟩ := y
  subst e e2
  exact hs i x r σ _ (h1 xs qa) p hr
 ·have e : i = xs.length := by omega
  subst e
  exact .inl ⟨⟨xs, qa, Nat.le_refl _⟩, hd σ H p⟩
end L2
namespace LS
open PySem PySem.W PyProof.Rows
section
variable {prog : Program} {w : World} {A : Around} {E : Value -> Shared -> Prop} {s : Shared}
theorem ne_dicts {a b : Addr} {oa ob : Obj} {ea : Array DictEntry} {pa pb : Nat} {Q : Value -> Shared -> Prop} (hu : A.units < cLine) (sa : (a == sysModules) = false) (sb : (b == sysModules) = false) (ha : s.heap.get? a = some oa) (xa : oa.ExactDict) (da : oa.data = .dict ea pa)
  (hb : s.heap.get? b = some ob) (xb : ob.ExactDict) (db : ob.data = .dict #[] pb) (h : Q (.bool (!ea.isEmpty)) s) : wpAny (model prog w) A (richCompare .NotEq (.ref a) (.ref b)) Q E s := by
 have hTa : s.TypeIs (.ref a) "dict" := ⟨oa, ha, xa.1⟩
 have hTb : s.TypeIs (.ref b) "dict" := ⟨ob, hb, xb.1⟩
 refine wpAny_richCompare_same_room (op := .NotEq) hTa hTb F.slot_dict_ne (wpAny_call_entry F.slot_dict_ne hTa F.entry_dict_ne ?_ (F.args_dict_ne_2 _ _)) hu
 show wpAny _ _ (Builtin.Dict.dictSlotArgs "__ne__" ⟨[.ref a, .ref b], []⟩ >>= _) _ _ _
 refine wpAny_bind ?_
 unfold Builtin.Dict.dictSlotArgs
 refine wpAny_bind (wpAny_notOrdered_dict hTa ?_)
 show wpAny _ _ (pure (Value.ref a, Value.ref b)) _ _ _
 refine wpAny_pure ?_
 dsimp only
 refine wpAny_bind (wpAny_isInstance hTb isSubtype_dict_dict ?_)
 simp only [Bool.not_true, Bool.false_eq_true, if_false]
 refine wpAny_bind (wpAny_pure ?_)
 refine wpAny_bind (wpAny_pure ?_)
 refine wpAny_bind ?_
 unfold Builtin.Dict.samePairs Builtin.Dict.showsAll
 rw [if_neg (by rw [sa]; exact Bool.false_ne_true), if_neg (by rw [sb]; exact Bool.false_ne_true)]
 refine wpAny_bind (wpAny_pure (wpAny_bind (wpAny_pure ?_)))
 refine wpAny_bind (wpAny_dictEntries ha da ?_)
 refine wpAny_bind (wpAny_dictEntries hb db ?_)
 cases he : ea.isEmpty with
 | false =>
  rw [he] at h
  have n0 : ea.size ≠ 0 := fun z => by rw [Array.isEmpty_iff_size_eq_zero.mpr z] at he; cases he
  rw [if_pos (by simpa using n0)]
  exact wpAny_bind (wpAny_rule (wpAny_pure (wpAny_pure ⟨_, rfl, (fun e => nomatch e), h⟩)))
 | true =>
  rw [he] at h
  have n0 : ea.size = 0 := Array.isEmpty_iff_size_eq_zero.mp he
  rw [if_neg (by simp [n0])]
  refine wpAny_bind (wpAny_dictEpoch ha da ?_)
  rw [n0, Std.Legacy.Range.forIn_eq_forIn_range']
  simp only [Std.Legacy.Range.size, Nat.sub_zero, Nat.add_sub_cancel, Nat.div_one, List.range'_zero, List.forIn_nil]
  exact wpAny_bind (wpAny_pure (wpAny_pure (wpAny_pure ⟨_, rfl, (fun e => nomatch e), h⟩)))
end
end LS
namespace L2
open PySem PySem.Spec PyProof.Rows LS
section
variable {X : Cx}
theorem za5 (hu : X.A.units + 64 < cLine) : OpR X (compareOp .NotEq) (fun x y H Q => ∃ (a b : Addr) (kvs : List (List Key × V)), x = .ref a /\ y = .ref b /\ H a = some (.dT kvs) /\ H b = some (.dT []) /\ Q (.bl (!kvs.isEmpty)) H) := by
 intro pins s σ H x y v u Q I rx ry h
 obtain ⟨a, b, kvs, rfl, rfl, ha, hb, q⟩ := h
 cases rx
 cases ry
 obtain ⟨z1, z2, ys, rel, o, es, ep, h1, h2, h3, h4, h5⟩ := (show xd4 X.prog X.w H s.heap a (.dT kvs) from I.hok a _ ha)
 obtain ⟨y1, y2, ys', rel', o', es', ep', g1, g2, g3, g4, g5⟩ := (show xd4 X.prog X.w H s.heap b (.dT []) from I.hok b _ hb)
 cases rel'
 have he : es' = #[] := by cases es'; simpa using g4
 subst he
 have e : es.isEmpty = kvs.isEmpty := by
  have l1 : es.toList.length = kvs.length := by rw [h4, List.length_map, <- Paired.length rel]
  cases kvs with
  | nil => cases es with | mk l => cases l with | nil => rfl | cons a b => simp at l1
  | cons k r => cases es with | mk l => cases l with | nil => simp at l1 | cons a b => rfl
 show wpAny _ _ (richCompare .NotEq _ _) _ _ _
 refine ne_dicts (by omega) z2 y2 h1 h2 h3 g1 g2 g3 ?_
 rw [e]
 exact ⟨.bl (!kvs.isEmpty), H, I, rfl, q⟩
def rInsert : V -> List V -> Hp -> VK -> Prop := fun x vs H Q => ∃ l xs i y, x = .ref l /\ vs = [.int i, y] /\ H l = some (.lst xs) /\ 0 <= i /\ i <= xs.length /\ xs.length <= 1000 /\ Q .non (upd H l (.lst (xs.take i.toNat ++ y :: xs.drop i.toNat)))
theorem yg4 : ∀ {vs : List V} {us : List Value}, Vals vs us -> ∀ n, Vals (vs.take n) (us.take n)
 | _, _, .nil, n => by rw [List.take_nil, List.take_nil]; exact .nil
 | _, _, .cons r t, 0 => .nil
 | _, _, .cons r t, n + 1 => .cons r (yg4 t n)
theorem yg8 : ∀ {vs : List V} {us : List Value}, Vals vs us -> ∀ n, Vals (vs.drop n) (us.drop n)
 | _, _, .nil, n => by rw [List.drop_nil, List.drop_nil]; exact .nil
 | _, _, .cons r t, 0 => .cons r t
 | _, _, .cons r t, n + 1 => yg8 t n
theorem zb3 : MtM X "list.insert" rInsert := by
 intro pins s σ H x vs v us Q I rx rv h
 obtain ⟨l, xs, i, y, rfl, rfl, hH, h0, hi, hx, q⟩ := h
 cases rx
 obtain ⟨u1, u2, rfl, r1, r2⟩ := yr8 rv
 obtain ⟨tk, rfl⟩ := r1
 obtain ⟨z, its, n, r, hl, e⟩ := I.lstM hH
 have hlen := r.length
 have fi : ¬ (!Builtin.List.listFitsIndex i) = true := by
  have : Builtin.List.listFitsIndex i = true := by unfold Builtin.List.listFitsIndex; simp; omega
  rw [this]; decide
 refine call_meets F.slot_list_insert ⟨_, e, rfl⟩ F.entry_list_insert (F.args_list_insert_3 _ _ _) (AutoListH.list_insert_list_int_val_1 l its.toArray n i tk u2 fi (by rw [List.size_toArray, sizeLine_eq]; omega)) ⟨e, ?_⟩
 have ek : min i.toNat its.length = i.toNat := Nat.min_eq_left (by omega)
 refine ⟨.non, _, I.lset (its' := its.take i.toNat ++ u2 :: its.drop i.toNat) hH e (by simp [show ¬ i < 0 by omega, ek]; exact List.take_of_length_le (by simp)) ((yg4 r _).append (.cons r2 (yg8 r _))) ?_, rfl, q⟩
 rw [List.length_append, List.length_cons, List.length_take, List.length_drop, sizeLine_eq]
 omega
end
section
variable {prog : Program} {w : World} {A : Around} {E : Value -> Shared -> Prop} {s : Shared} {K : Frag} {ea C CL f dx : Addr} {oe : Obj}
theorem xset2 {Q : Unit -> Shared -> Prop} {name : Str} {v : Value} {mA : Str -> Option Value} {ns : List Str} (kin : K.In s.heap) (x : XInit K C CL f) (e1 : s.heap.get? ea = some oe) (e2 : oe.cls = .ref C) (e3 : oe.dict = some dx) {vs : Array Value} (e4 : oe.data = .fields vs) (hn : findIn K (.ref C) name = some none)
  (n1 : s.heap.Ns1 dx mA) (hw : PySem.Within mA ns) (hz : ns.length <= 1000)
  (h : ∀ h' tk, h'.Ns1 dx (fun y => if y = name then some v else mA y) -> (∀ b o, b ≠ dx -> s.heap.get? b = some o -> h'.get? b = some o) -> Q () { s with heap := h', toks := tk }) :
  wpAny (model prog w) A (setAttr (.ref ea) name v) Q E s := by
 have nc : notCls oe = true := by
  cases oe with
  | mk a1 a2 a3 a4 => dsimp only at e4; subst e4; rfl
 obtain ⟨od, ho, hlk⟩ := xn9 n1
 have I : InstAt s.heap ea oe C (some od) := ⟨e1, e2, nc, by rw [e3]; exact ho⟩
 refine set_plain kin I x.sa (xosa (s := { s with toks := s.toks + 1 }) kin x I hn ?_)
 obtain ⟨cd, hc, hd⟩ := any_some x.hd
 have LC := looks_clsIn (M := model prog w) kin hc
 unfold Builtin.ObjectAttr.storeInOwnDict
 refine wpAny_bind (wpAny_pure (wpAny_bind (wpAny_bind (wpAny_loadPart e1 ?_))))
 rw [e2]
 refine wpAny_bind (PySem.W.Looks.here (s := { s with toks := s.toks + 1 }) LC ?_)
 rw [hd, e3]
 refine wpAny_pure (a := some dx) ?_
 show wpAny _ _ (Builtin.ObjectAttr.storeInDict dx (.str name s.toks) name v) _ _ _
 unfold Builtin.ObjectAttr.storeInDict Builtin.ObjectAttr.newKeyGuard
 refine wpAny_bind (wpAny_pure (wpAny_bind (wpAny_nsSet1 (s := { s with toks := s.toks + 1 }) n1 fun h3 n3 same3 => ?_)))
 obtain ⟨oD, esD, epD, d1, d2, d3⟩ := n3.count (PySem.Within.cons name v hw)
 refine wpAny_bind (wpAny_lookBehind d1 (by rw [d2]; exact pastItsLine_dict (Nat.le_trans d3 (by rw [List.length_cons, sizeLine_eq]; omega))) ?_)
 exact wpAny_pure (h h3 _ n3 fun b o n q => (same3.2 b n).trans q)
end
theorem yb9 {g : Str} {v : V} : ∀ {fs : List (Str × V)}, fs.lookup g = some v -> g ∈ fs.map (·.1)
 | [], h => by simp [List.lookup] at h
 | (k, x) :: fs, h => by
  by_cases c : g = k
  ·subst c; simp
  ·rw [List.lookup_cons, beq_false_of_ne c] at h
   exact List.mem_cons_of_mem _ (yb9 h)
def xdM (dx : Addr) (fs : List (Str × V)) : HO := .ext fun h => ∃ mA, h.Ns1 dx mA /\ ∀ f, RelO (fs.lookup f) (mA f)
theorem xdM_ok {P : Program} {w : World} {H : Hp} {g : Heap} {dx : Addr} {fs : List (Str × V)} (x : ∃ mA, g.Ns1 dx mA /\ ∀ f, RelO (fs.lookup f) (mA f)) : xd4 P w H g dx (xdM dx fs) := by
 obtain ⟨mA, ⟨o, es, ep, e, c⟩, r⟩ := id x
 exact ⟨x, ⟨o, e⟩, fun h1 h2 ⟨mA, ⟨od, es, ep, e, c⟩, r⟩ k => ⟨mA, ⟨od, es, ep, k _ e, c⟩, r⟩⟩
theorem xdM_is {P : Program} {w : World} {H : Hp} {g : Heap} {dx : Addr} {fs : List (Str × V)} (k : HOk P w H g) (e : H dx = some (xdM dx fs)) : ∃ mA, g.Ns1 dx mA /\ ∀ f, RelO (fs.lookup f) (mA f) := (k _ _ e).1
def sXFld1 (K : Frag) (ta tv : TE) (f : Str) : TS := fun D σ H => tv σ H fun y H1 => ta σ H1 fun x H2 => ∃ ea C CL fi, x = .ref ea /\ H2 ea = some (xp7 ea (.ref C) none) /\ XInit K C CL fi /\ findIn K (.ref C) f = some none /\
 ∀ dx, H2 dx = none -> D.nx σ (upd (upd H2 ea (xp7 ea (.ref C) (some dx))) dx (xdM dx [(f, y)]))
def sXFld2 (K : Frag) (ta tv : TE) (f : Str) : TS := fun D σ H => tv σ H fun y H1 => ta σ H1 fun x H2 => ∃ ea C CL fi dx fs, x = .ref ea /\ H2 ea = some (xp7 ea (.ref C) (some dx)) /\ H2 dx = some (xdM dx fs) /\ XInit K C CL fi /\ findIn K (.ref C) f = some none /\ fs.length <= 1000 /\
 D.nx σ (upd H2 dx (.xd ((f, y) :: fs)))
def tNFld (K : Frag) (ta : TE) (f : Str) : TE := fun σ H Q => ta σ H fun x H1 => ∃ ea C dx fs v, x = .ref ea /\ H1 ea = some (xp7 ea (.ref C) (some dx)) /\ H1 dx = some (.xd fs) /\ XCls K C /\ hasDictIn K C = true /\ findIn K (.ref C) f = some none /\ fs.lookup f = some v /\ Q v H1
section
variable {X : Cx} {o e value : Expr} {es : List Expr} {f x : Str} {pos pos' apos np : Pos} {ta tv : TE} {t : TA}
theorem ps_xfld1 (K : Frag) (ha : PE X o ta) (hv : PE X value tv) (hx : X.ex = [] := by rfl) (hK : X.K = K := by rfl) (hs : swapsWith value (some (.Attribute o f pos')) pos.line X.env = pure false := by rfl) : PS X (.Assign [.Attribute o f pos'] value pos) (sXFld1 K ta tv f) := by
 subst hK
 intro pins s σ H D I h
 refine plainObj_wpAny_Assign_Attribute (thn (hv pins s σ H _ I h) fun u s1 ⟨y, H1, I1, ry, q⟩ => thn (ha pins s1 σ H1 _ I1 q) fun ov s2 ⟨x, H2, I2, rx, ea, C, CL, fi, ex, hea, xi, hn, q2⟩ => ?_) hs
 subst ex
 obtain rfl : ov = Value.ref ea := rx
 obtain ⟨oe, vs, a0, e1, e2, e3, e4, e5, e6⟩ := xr2 I2.hok hea
 refine xset I2.kIn xi e1 e2 e3 e4 hn fun h' tk g1 g2 g3 => ?_
 have nw : s2.heap.get? s2.heap.objs.size = none := Heap.get?_none_of_le (Nat.le_refl _)
 have ap := I2.apart hx nw
 have ne : s2.heap.objs.size ≠ ea := Ne.symm (Nat.ne_of_lt (Heap.lt_size e1))
 have I3 : Inv X pins σ (upd H2 ea (xp7 ea (.ref C) (some s2.heap.objs.size))) { s2 with heap := h', toks := tk } :=
  I2.write (x := ea) (e := ea) (by rw [hea]; exact True.intro) (.inl rfl) (fun b q hb z => g3 b q hb z) ⟨_, g1⟩ (ye6 ⟨_, vs, a0, g1, e2, rfl, e4, e5, e6⟩)
 have I4 := I3.trackO (u := xdM s2.heap.objs.size [(f, y)]) (ea := s2.heap.objs.size) ⟨by rw [xa3 ne]; exact ap.trk, ap.old, ap.loc, ap.cell, ap.pin⟩ (xdM_ok ⟨_, g2, fun g => by
  by_cases z : g = f
  ·subst z
   simp [List.lookup, ry, RelO]
  ·simp [List.lookup, z, RelO, beq_false_of_ne z]⟩)
 exact ⟨σ, _, I4, q2 _ ap.trk⟩
theorem ps_xfld2 (K : Frag) (ha : PE X o ta) (hv : PE X value tv) (hK : X.K = K := by rfl) (hs : swapsWith value (some (.Attribute o f pos')) pos.line X.env = pure false := by rfl) : PS X (.Assign [.Attribute o f pos'] value pos) (sXFld2 K ta tv f) := by
 subst hK
 intro pins s σ H D I h
 refine plainObj_wpAny_Assign_Attribute (thn (hv pins s σ H _ I h) fun u s1 ⟨y, H1, I1, ry, q⟩ => thn (ha pins s1 σ H1 _ I1 q) fun ov s2 ⟨x, H2, I2, rx, ea, C, CL, fi, dx, fs, ex, hea, hdx, xi, hn, hl, q2⟩ => ?_) hs
 subst ex
 obtain rfl : ov = Value.ref ea := rx
 obtain ⟨oe, vs, a0, e1, e2, e3, e4, e5, e6⟩ := xr2 I2.hok hea
 obtain ⟨mA, ns, rl⟩ := xdM_is I2.hok hdx
 have hw : PySem.Within mA (fs.map (·.1)) := fun g hg => by
  have r := rl g
  cases e : fs.lookup g with
  | none =>
   rw [e] at r
   cases c : mA g with
   | none => exact absurd c hg
   | some z => rw [c] at r; exact r.elim
  | some v => exact yb9 e
 refine xset2 I2.kIn xi e1 e2 e3 e4 hn ns hw (by rw [List.length_map]; exact hl) fun h' tk g2 g3 => ?_
 obtain ⟨od, es', ep, q1, _⟩ := id g2
 have I3 : Inv X pins σ (upd H2 dx (.xd ((f, y) :: fs))) { s2 with heap := h', toks := tk } :=
  I2.write (x := dx) (e := dx) (by rw [hdx]; exact True.intro) (.inl rfl) (fun b q hb z => g3 b q hb z) ⟨_, q1⟩ ⟨_, g2, fun g => by
   by_cases z : g = f
   ·subst z
    simp [List.lookup, ry, RelO]
   ·have := rl g
    simp only [List.lookup, beq_false_of_ne z, if_neg z]
    exact this⟩
 exact ⟨σ, _, I3, q2⟩
theorem za1 (K : Frag) (he : PE X e ta) (hb : attributeBase e f X.env (eval e X.env) = eval e X.env := by rfl) (hK : X.K = K := by rfl) : PE X (.Attribute e f pos) (tNFld K ta f) := by
 subst hK
 intro pins s σ H Q I h
 refine yo3 hb (thn (he pins s σ H _ I h) fun u s1 ⟨x, H1, I1, rx, ea, C, dx, fs, v, ex, hea, hdx, xc, hd, n, l, q⟩ => ?_)
 subst ex
 obtain rfl : u = Value.ref ea := rx
 obtain ⟨oe, vs, a0, e1, e2, e3, e4, e5, e6⟩ := xr2 I1.hok hea
 obtain ⟨mA, ns, rl⟩ := (show xd4 X.prog X.w H1 s1.heap dx (.xd fs) from I1.hok _ _ hdx)
 obtain ⟨od, ho, hlk⟩ := xn9 ns
 obtain ⟨uv, hu, ru⟩ := RelO.some_of (v := v) (o := mA f) (by rw [<- l]; exact rl f)
 have nc : notCls oe = true := by
  cases oe with
  | mk a1 a2 a3 a4 => dsimp only at e4; subst e4; rfl
 have J : InstAt s1.heap ea oe C (some od) := ⟨e1, e2, nc, by rw [e3]; exact ho⟩
 unfold getAttr
 refine wpAny_bind (wpAny_mkText ?_)
 refine xget (s := { s1 with toks := s1.toks + 1 }) (P := fun w s' => w = uv /\ s' = { s1 with toks := s1.toks + 1 }) I1.kIn xc J ?_ ?_
 ·exact xu8 (s := { s1 with toks := s1.toks + 1 }) I1.kIn xc J (findObj_own hd n rfl (by rw [hlk, hu])) ⟨rfl, rfl⟩
 ·rintro w s' ⟨rfl, rfl⟩
  exact handed_on (xx9 ru) ⟨v, H1, I1.tok _, ru, q⟩
end
def tMakeX (C : Addr) (sp : Sp) (dvs : List V) (t : TA) : TE := fun σ H Q => t σ H fun vs H1 => vs.length <= 1000 /\ ∀ ea, H1 ea = none ->
 sp (.ref ea :: (vs ++ dvs)) (upd H1 ea (xp7 ea (.ref C) none)) (fun v H2 => v = .non /\ Q (.ref ea) H2) E0
section
variable {X : Cx} {CX : CXT} {k : Nat}
theorem pe_makeX {x : Str} {e : Expr} {es : List Expr} {t : TA} {C CL fi : Addr} {fd : FuncData} {ps : List Str} {sp : Sp} {dvs : List V} {ds : List Value} {np cpos : Pos} (xi : XInit X.K C CL fi)
  (G : FnOk X.prog X.w X.K X.mg X.base CX k fi fd ps sp) (hr : Room (k + 1) X.A) (hg : Gl X x) (hm : X.mg x = some (.ref C)) (hb : xc5 X.K fd ps ds) (hd : Vals dvs ds) (hx : xt8 CX X E0) (ha : PA X (e :: es) t)
  (hdb : (x == ("__debug__" : Str)) = false := by decide) (he : starEach (e :: es) X.env = (false, eval e X.env) :: starEach es X.env := by rfl) (hpl : (backTo cpos (starEach es X.env)).any (·.1) = false := by rfl) :
  PE X (.Call (.Name x np) (e :: es) [] cpos) (tMakeX C sp dvs t) := by
 intro pins s σ H Q I h
 refine wpAny_Call_Name_kw (xm8 I hg hm ?_ hdb)
 refine callWith_K (h₀ := X.base) I.ok.mod.kin xi.kp (thn (ha cpos pins s σ H _ I h) fun us s1 ⟨vs, H1, I1, r, hlen, q⟩ => ⟨I1.kIn, ?_⟩) he hpl
 have nw : s1.heap.get? (s1.heap.objs.size + 1) = none := Heap.get?_none_of_le (Nat.le_succ _)
 have hq := q _ (I1.hok.none_of nw)
 have I2 := I1.madeX (C := C) us
 have r2 : Vals (V.ref (s1.heap.objs.size + 1) :: (vs ++ dvs)) (Value.ref (s1.heap.objs.size + 1) :: (us ++ ds)) := .cons rfl (r.append hd)
 have hl : (Value.ref (s1.heap.objs.size + 1) :: us ++ ds).length = ps.length := by
  have e := r2.length
  rw [G.len _ _ _ _ hq] at e
  exact e.symm
 refine wpAny_call (yq1 I1.kIn xi (by show us.length <= sizeLine; rw [<- r.length]; exact xd7 hlen) (codeAny_mono (G.run _ X.stack _ _ ⟨Value.ref (s1.heap.objs.size + 1) :: us, []⟩ (Value.ref (s1.heap.objs.size + 1) :: (us ++ ds)) _ _ E0 (hr.make C us [])
  (I2.env0.make C us []) (hb _ (Value.ref (s1.heap.objs.size + 1) :: us) I2.kIn hl) r2 hq) fun rr s' hq' => ?_))
 cases rr with
 | error ev => exact hx pins σ _ _ ev s' I2 hq'
 | ok fl =>
  cases fl with
  | ret u =>
   obtain ⟨v, H', I3, rv, ev, q3⟩ := I2.after hq'
   subst ev
   exact ⟨rv, V.ref (s1.heap.objs.size + 1), H', I3, rfl, q3⟩
  | next => exact False.elim hq'
  | brk => exact False.elim hq'
  | cont => exact False.elim hq'
end
end L2
namespace My
open PySem L2
def top (i : Nat) : Stmt := PySem.Challenge.pw_lampcues_k83_refused_lamps.main.body.getD i (.Pass ⟨0, 0, 0, 0⟩)
abbrev xi9 : Stmt := (top 12)
abbrev xl2 : Stmt := (top 15)
abbrev xl5 : Stmt := (top 23)
abbrev xl4 : Stmt := (top 24)
abbrev xl3 : Stmt := (top 25)
abbrev xh3 : Stmt := (top 26)
abbrev xi8 : Stmt := (top 27)
abbrev xe7 : Stmt := (top 29)
abbrev xe2 : Stmt := (top 30)
abbrev xc6 : Stmt := (top 31)
abbrev xh4 : Stmt := (yf3 (top 32) 0)
abbrev xd2 : Stmt := (yf3 (top 32) 1)
abbrev xe9 : Stmt := (top 33)
abbrev xj1 : Stmt := (yf3 (top 34) 0)
abbrev xj0 : Stmt := (top 35)
abbrev xl7 : Stmt := (top 37)
abbrev xo3 : Stmt := (top 38)
abbrev xl8 : Stmt := (top 39)
abbrev xo4 : Stmt := (top 42)
abbrev xs7 : Stmt := (top 40)
abbrev xi5 : Stmt := (top 41)
abbrev xf6 : Stmt := (top 54)
abbrev xe8 : Stmt := (top 55)
abbrev xc9 : Stmt := (yf3 (top 10) 0)
abbrev xl6 : Stmt := (top 59)
abbrev xh2 : Stmt := (top 60)
abbrev xh0 : Stmt := (top 61)
abbrev xg9 : Stmt := (top 58)
abbrev xo2 : Stmt := (top 57)
abbrev xg5 : Stmt := (top 64)
abbrev xf7 : Stmt := (top 70)
abbrev xh1 : Stmt := (top 71)
abbrev xi6 : Stmt := (top 72)
abbrev xc7 : Stmt := (top 73)
abbrev xg6 : Stmt := (top 74)
abbrev xi7 : Stmt := (top 75)
abbrev yt3 : Stmt := (top 76)
structure Adr where
 ea : Addr
 eb : FuncData
 ec : Addr
 ed : FuncData
 ee : Addr
 ef : FuncData
 eg : Addr
 eh : FuncData
 ei : Addr
 ej : FuncData
 ek : Addr
 el : FuncData
 em : Addr
 en : FuncData
 eo : Addr
 ep : FuncData
 eq : Addr
 er : FuncData
 es : Addr
 et : FuncData
 eu : Addr
 ev : FuncData
 ew : Addr
 ex : List Value
 ey : Addr
 ez : FuncData
 ea1 : Addr
 eb1 : FuncData
 ec1 : Addr
 ed1 : FuncData
 ee1 : Addr
 ef1 : List Value
 eg1 : Addr
 eh1 : FuncData
 ei1 : Addr
 ej1 : FuncData
 ek1 : Addr
 el1 : FuncData
 em1 : Addr
 en1 : FuncData
 eo1 : Addr
 ep1 : FuncData
 eq1 : Addr
 er1 : FuncData
 es1 : Addr
 et1 : FuncData
 eu1 : Addr
 ev1 : FuncData
 ew1 : Addr
 ex1 : FuncData
 ey1 : Addr
 ez1 : FuncData
 ea2 : Addr
 eb2 : FuncData
 ec2 : Addr
 ed2 : FuncData
 ee2 : Addr
 ef2 : FuncData
 eg2 : Addr
 eh2 : FuncData
 ei2 : Addr
 ej2 : FuncData
 ek2 : Addr
 el2 : FuncData
 em2 : Addr
 en2 : FuncData
 eo2 : Addr
 ep2 : FuncData
 eq2 : Addr
 er2 : FuncData
 es2 : Addr
 et2 : FuncData
 eu2 : Addr
 ev2 : FuncData
 ew2 : Addr
 ex2 : FuncData
 ey2 : Addr
 ez2 : FuncData
 ea3 : Addr
 eb3 : Addr
 ec3 : Addr
 ed3 : Addr
 ee3 : Addr
 ef3 : Addr
 eg3 : Addr
 eh3 : Unit
structure Txt (K : Frag) (mg : Str -> Option Value) (A : Adr) : Prop where
 ea : Fun K "is_whole" "is_whole" xi9 A.ea A.eb
 eb : xc5 K A.eb ["thing"] []
 ec : mg "is_whole" = some (.ref A.ea)
 ed : Fun K "is_time" "is_time" xl2 A.ec A.ed
 ee : xc5 K A.ed ["thing"] []
 ef : mg "is_time" = some (.ref A.ec)
 eg : Fun K "is_lamp" "is_lamp" xl5 A.ee A.ef
 eh : xc5 K A.ef ["thing"] []
 ei : mg "is_lamp" = some (.ref A.ee)
 ej : Fun K "is_side" "is_side" xl4 A.eg A.eh
 ek : xc5 K A.eh ["thing"] []
 el : mg "is_side" = some (.ref A.eg)
 em : Fun K "is_slot" "is_slot" xl3 A.ei A.ej
 en : xc5 K A.ej ["thing"] []
 eo : mg "is_slot" = some (.ref A.ei)
 ep : Fun K "is_bright" "is_bright" xh3 A.ek A.el
 eq : xc5 K A.el ["slot"] []
 er : mg "is_bright" = some (.ref A.ek)
 es : Fun K "is_worth" "is_worth" xi8 A.em A.en
 et : xc5 K A.en ["thing"] []
 eu : mg "is_worth" = some (.ref A.em)
 ev : Fun K "refuse_worth" "refuse_worth" xe7 A.eo A.ep
 ew : xc5 K A.ep ["thing"] []
 ex : mg "refuse_worth" = some (.ref A.eo)
 ey : Fun K "is_cue_number" "is_cue_number" xe2 A.eq A.er
 ez : xc5 K A.er ["thing"] []
 ea1 : mg "is_cue_number" = some (.ref A.eq)
 eb1 : Fun K "has_slots_as_keys" "has_slots_as_keys" xc6 A.es A.et
 ec1 : xc5 K A.et ["thing"] []
 ed1 : mg "has_slots_as_keys" = some (.ref A.es)
 ee1 : FunD K "__init__" "Part.__init__" xh4 (.ref A.ew) A.eu A.ev
 ef1 : xc5 K A.ev ["self", "tells", "alone", "rise", "fall", "wait"] []
 eg1 : xc5 K A.ev ["self", "tells", "alone", "rise", "fall", "wait"] A.ex
 eh1 : Vals [V.int 0, V.int 0, V.int 0] A.ex
 ei1 : KBinds K A.ev ["self", "tells", "alone", "rise", "fall", "wait"] ["rise", "fall", "wait"] (gAB 3 3) (gAB 3 3)
 ej1 : Mk K A.ea3 A.eu
 ek1 : Fun K "told_slots" "Part.told_slots" xd2 A.ey A.ez
 el1 : xc5 K A.ez ["self"] []
 em1 : Meth K A.ea3 "told_slots" A.ey
 en1 : Fun K "is_part_list" "is_part_list" xe9 A.ea1 A.eb1
 eo1 : xc5 K A.eb1 ["thing"] []
 ep1 : mg "is_part_list" = some (.ref A.ea1)
 eq1 : FunD K "__init__" "Cue.__init__" xj1 (.ref A.ee1) A.ec1 A.ed1
 er1 : xc5 K A.ed1 ["self", "number", "parts", "stops", "follow"] []
 es1 : xc5 K A.ed1 ["self", "number", "parts", "stops", "follow"] A.ef1
 et1 : Vals [V.bl false, V.non] A.ef1
 eu1 : KBinds K A.ed1 ["self", "number", "parts", "stops", "follow"] ["stops", "follow"] (gAB 3 2) (gAB 3 2)
 ev1 : Mk K A.eb3 A.ec1
 ew1 : Fun K "cue_list" "cue_list" xj0 A.eg1 A.eh1
 ex1 : xc5 K A.eh1 ["cues"] []
 ey1 : mg "cue_list" = some (.ref A.eg1)
 ez1 : Fun K "checked" "checked" xl7 A.ei1 A.ej1
 ea2 : xc5 K A.ej1 ["cues", "number"] []
 eb2 : mg "checked" = some (.ref A.ei1)
 ec2 : Fun K "put_in" "put_in" xo3 A.ek1 A.el1
 ed2 : xc5 K A.el1 ["look", "told"] []
 ee2 : mg "put_in" = some (.ref A.ek1)
 ef2 : Fun K "carried" "carried" xl8 A.em1 A.en1
 eg2 : xc5 K A.en1 ["cues", "number"] []
 eh2 : mg "carried" = some (.ref A.em1)
 ei2 : Fun K "cue_at" "cue_at" xo4 A.eo1 A.ep1
 ej2 : xc5 K A.ep1 ["cues", "number"] []
 ek2 : mg "cue_at" = some (.ref A.eo1)
 el2 : Fun K "shown" "shown" xs7 A.eq1 A.er1
 em2 : xc5 K A.er1 ["cues", "number"] []
 en2 : mg "shown" = some (.ref A.eq1)
 eo2 : Fun K "looks_of" "looks_of" xi5 A.es1 A.et1
 ep2 : xc5 K A.et1 ["cues"] []
 eq2 : mg "looks_of" = some (.ref A.es1)
 er2 : Fun K "refuse_name" "refuse_name" xf6 A.eu1 A.ev1
 es2 : xc5 K A.ev1 ["thing"] []
 et2 : mg "refuse_name" = some (.ref A.eu1)
 eu2 : Fun K "refuse_lamps" "refuse_lamps" xe8 A.ew1 A.ex1
 ev2 : xc5 K A.ex1 ["thing"] []
 ew2 : mg "refuse_lamps" = some (.ref A.ew1)
 ex2 : Fun K "__init__" "MovesBright.__init__" xc9 A.ey1 A.ez1
 ey2 : xc5 K A.ez1 ["self", "words", "lamp", "number"] []
 ez2 : XInit K A.ef3 A.ec3 A.ey1
 ea3 : UpInit K A.ec3
 eb3 : hasDictIn K A.ef3 = true
 ec3 : findIn K (.ref A.ef3) "lamp" = some none
 ed3 : findIn K (.ref A.ef3) "number" = some none
 ee3 : Fun K "is_dark" "is_dark" xl6 A.ea2 A.eb2
 ef3 : xc5 K A.eb2 ["look", "lamp"] []
 eg3 : mg "is_dark" = some (.ref A.ea2)
 eh3 : Fun K "is_moving" "is_moving" xh2 A.ec2 A.ed2
 ei3 : xc5 K A.ed2 ["slot", "lamp"] []
 ej3 : mg "is_moving" = some (.ref A.ec2)
 ek3 : Fun K "stance_of" "stance_of" xh0 A.ee2 A.ef2
 el3 : xc5 K A.ef2 ["look", "lamp"] []
 em3 : mg "stance_of" = some (.ref A.ee2)
 en3 : Fun K "wishes_of" "wishes_of" xg9 A.eg2 A.eh2
 eo3 : xc5 K A.eh2 ["cues", "looks", "lamp"] []
 ep3 : mg "wishes_of" = some (.ref A.eg2)
 eq3 : Fun K "wishes" "wishes" xo2 A.ei2 A.ej2
 er3 : xc5 K A.ej2 ["cues", "lamps"] []
 es3 : mg "wishes" = some (.ref A.ei2)
 et3 : Fun K "moved_dark" "moved_dark" xg5 A.ek2 A.el2
 eu3 : xc5 K A.el2 ["cues", "lamps"] []
 ev3 : mg "moved_dark" = some (.ref A.ek2)
 ew3 : Fun K "_law_cell_at" "_law_cell_at" xf7 A.em2 A.en2
 ex3 : xc5 K A.en2 ["_law_script", "_law_k"] []
 ey3 : mg "_law_cell_at" = some (.ref A.em2)
 ez3 : Fun K "_law_drawn" "_law_drawn" xh1 A.eo2 A.ep2
 ea4 : xc5 K A.ep2 ["_law_script", "_law_k"] []
 eb4 : mg "_law_drawn" = some (.ref A.eo2)
 ec4 : Fun K "_law_name" "_law_name" xi6 A.eq2 A.er2
 ed4 : xc5 K A.er2 ["_law_number", "_law_form"] []
 ee4 : mg "_law_name" = some (.ref A.eq2)
 ef4 : Fun K "_law_no_lamp" "_law_no_lamp" xc7 A.es2 A.et2
 eg4 : xc5 K A.et2 ["_law_number"] []
 eh4 : mg "_law_no_lamp" = some (.ref A.es2)
 ei4 : Fun K "_law_truths" "_law_truths" xg6 A.eu2 A.ev2
 ej4 : xc5 K A.ev2 ["_law_way", "_law_cues", "_law_lamps"] []
 ek4 : mg "_law_truths" = some (.ref A.eu2)
 el4 : Fun K "_law_both" "_law_both" xi7 A.ew2 A.ex2
 em4 : xc5 K A.ex2 ["_law_cues", "_law_lamps", "_law_due"] []
 en4 : mg "_law_both" = some (.ref A.ew2)
 eo4 : Fun K "law" "law" yt3 A.ey2 A.ez2
 ep4 : xc5 K A.ez2 ["_law_script"] []
 eq4 : mg "law" = some (.ref A.ey2)
 er4 : Cls K A.ea3
 es4 : mg "Part" = some (.ref A.ea3)
 et4 : xj9 K A.ea3 "tells"
 eu4 : xj9 K A.ea3 "alone"
 ev4 : xj9 K A.ea3 "rise"
 ew4 : xj9 K A.ea3 "fall"
 ex4 : xj9 K A.ea3 "wait"
 ey4 : ∀ (H : Hp) (a dx : Addr) (fs : List (Str × V)), H a = some (.ins A.ea3 dx fs) -> TyOf K H (.ref a) (.ref A.ea3)
 ez4 : kitOne K (.ref A.ea3) (.ref A.ea3) = some true
 ea5 : Cls K A.eb3
 eb5 : mg "Cue" = some (.ref A.eb3)
 ec5 : xj9 K A.eb3 "number"
 ed5 : xj9 K A.eb3 "parts"
 ee5 : xj9 K A.eb3 "stops"
 ef5 : xj9 K A.eb3 "follow"
 eg5 : ∀ (H : Hp) (a dx : Addr) (fs : List (Str × V)), H a = some (.ins A.eb3 dx fs) -> TyOf K H (.ref a) (.ref A.eb3)
 eh5 : kitOne K (.ref A.eb3) (.ref A.eb3) = some true
 ei5 : kitOne K (.type "NoneType") (.ref A.eb3) = some false
 ej5 : mg "LampError" = some (.ref A.ec3)
 ek5 : mg "NoList" = some (.ref A.ed3)
 el5 : mg "NoName" = some (.ref A.ee3)
 em5 : mg "MovesBright" = some (.ref A.ef3)
 en5 : ExcC K A.ed3
 eo5 : XCls K A.ed3
 ep5 : exmOne K (.ref A.ed3) (.ref A.ec3) = some true
 eq5 : kitOne K (.ref A.ed3) (.type "ValueError") = some true
 er5 : kitOne K (.ref A.ed3) (.ref A.ec3) = some true
 es5 : kitOne K (.ref A.ed3) (.ref A.ed3) = some true
 et5 : kitOne K (.ref A.ed3) (.ref A.ee3) = some false
 eu5 : kitOne K (.ref A.ed3) (.ref A.ef3) = some false
 ev5 : ExcC K A.ee3
 ew5 : XCls K A.ee3
 ex5 : exmOne K (.ref A.ee3) (.ref A.ec3) = some true
 ey5 : kitOne K (.ref A.ee3) (.type "ValueError") = some true
 ez5 : kitOne K (.ref A.ee3) (.ref A.ec3) = some true
 ea6 : kitOne K (.ref A.ee3) (.ref A.ed3) = some false
 eb6 : kitOne K (.ref A.ee3) (.ref A.ee3) = some true
 ec6 : kitOne K (.ref A.ee3) (.ref A.ef3) = some false
 ed6 : XCls K A.ef3
 ee6 : exmOne K (.ref A.ef3) (.ref A.ec3) = some true
 ef6 : kitOne K (.ref A.ef3) (.type "ValueError") = some true
 eg6 : kitOne K (.ref A.ef3) (.ref A.ec3) = some true
 eh6 : kitOne K (.ref A.ef3) (.ref A.ed3) = some false
 ei6 : kitOne K (.ref A.ef3) (.ref A.ee3) = some false
 ej6 : kitOne K (.ref A.ef3) (.ref A.ef3) = some true
 ek6 : mg "isinstance" = none
 el6 : mg "int" = none
 em6 : mg "bool" = none
 en6 : mg "str" = none
 eo6 : mg "tuple" = none
 ep6 : mg "list" = none
 eq6 : mg "dict" = none
 er6 : mg "set" = none
 es6 : mg "sorted" = none
 et6 : mg "len" = none
 eu6 : mg "all" = none
 ev6 : mg "min" = none
 ew6 : mg "range" = none
 ex6 : mg "enumerate" = none
 ey6 : mg "ValueError" = none
 ez6 : ∃ t, mg "MOST_TICKS" = some (.int 1000000000 t)
 ea7 : ∃ t, mg "LETTERS" = some (.str "abcdefghijklmnopqrstuvwxyz" t)
 eb7 : ∃ t, mg "MOST_LETTERS" = some (.int 8 t)
 ec7 : ∃ t, mg "MOST_WORTH" = some (.int 1000000000 t)
 ed7 : ∃ t, mg "MOST_NUMBER" = some (.int 1000000000 t)
 ee7 : ∃ t, mg "MOST_PARTS" = some (.int 9 t)
 ef7 : mg "SIDES" = some (.ref A.eg3)
 eg7 : ∀ H, SqT K H A.eg3 [.str (Str.ofString "blue"), .str (Str.ofString "bright"), .str (Str.ofString "green"), .str (Str.ofString "pan"), .str (Str.ofString "red"), .str (Str.ofString "tilt")]
theorem ym2 : FnScope ["thing"] ["thing"] (xa4 xi9) := ⟨rfl, rfl, rfl, by decide +kernel, rfl, by decide +kernel, by decide +kernel⟩
theorem ys8 : FnScope ["thing"] ["thing"] (xa4 xl2) := ⟨rfl, rfl, rfl, by decide +kernel, rfl, by decide +kernel, by decide +kernel⟩
theorem yt1 : FnScope ["thing"] ["thing"] (xa4 xl5) := ⟨rfl, rfl, rfl, by decide +kernel, rfl, by decide +kernel, by decide +kernel⟩
theorem ye7 : (["sign"] : List Str).Nodup := by decide +kernel
theorem yt0 : FnScope ["thing"] ["thing"] (xa4 xl4) := ⟨rfl, rfl, rfl, by decide +kernel, rfl, by decide +kernel, by decide +kernel⟩
theorem ys9 : FnScope ["thing"] ["thing"] (xa4 xl3) := ⟨rfl, rfl, rfl, by decide +kernel, rfl, by decide +kernel, by decide +kernel⟩
theorem yh6 : FnScope ["slot"] ["slot"] (xa4 xh3) := ⟨rfl, rfl, rfl, by decide +kernel, rfl, by decide +kernel, by decide +kernel⟩
theorem ym1 : FnScope ["thing"] ["thing"] (xa4 xi8) := ⟨rfl, rfl, rfl, by decide +kernel, rfl, by decide +kernel, by decide +kernel⟩
theorem xv4 : FnScope ["thing"] ["thing"] (xa4 xe7) := ⟨rfl, rfl, rfl, by decide +kernel, rfl, by decide +kernel, by decide +kernel⟩
theorem xt9 : FnScope ["thing"] ["thing"] (xa4 xe2) := ⟨rfl, rfl, rfl, by decide +kernel, rfl, by decide +kernel, by decide +kernel⟩
theorem xo9 : FnScope ["thing"] ["thing"] (xa4 xc6) := ⟨rfl, rfl, rfl, by decide +kernel, rfl, by decide +kernel, by decide +kernel⟩
theorem xm6 : (["key"] : List Str).Nodup := by decide +kernel
theorem xk2 : FnScope ["self", "tells", "alone", "rise", "fall", "wait", "told", "worth"] ["self", "tells", "alone", "rise", "fall", "wait"] (xa4 xh4) := ⟨rfl, rfl, rfl, by decide +kernel, rfl, by decide +kernel, by decide +kernel⟩
theorem xw8 : (["ticks"] : List Str).Nodup := by decide +kernel
theorem xq7 : FnScope ["self"] ["self"] (xa4 xd2) := ⟨rfl, rfl, rfl, by decide +kernel, rfl, by decide +kernel, by decide +kernel⟩
theorem xj3 : FnScope ["thing", "slots", "part"] ["thing"] (xa4 xe9) := ⟨rfl, rfl, rfl, by decide +kernel, rfl, by decide +kernel, by decide +kernel⟩
theorem xr3 : (["part"] : List Str).Nodup := by decide +kernel
theorem ym3 : FnScope ["self", "number", "parts", "stops", "follow"] ["self", "number", "parts", "stops", "follow"] (xa4 xj1) := ⟨rfl, rfl, rfl, by decide +kernel, rfl, by decide +kernel, by decide +kernel⟩
theorem xm3 : FnScope ["cues", "place"] ["cues"] (xa4 xj0) := ⟨rfl, rfl, rfl, by decide +kernel, rfl, by decide +kernel, by decide +kernel⟩
theorem xp1 : (["cue"] : List Str).Nodup := by decide +kernel
theorem ya8 : FnScope ["cues", "number", "own"] ["cues", "number"] (xa4 xl7) := ⟨rfl, rfl, rfl, by decide +kernel, rfl, by decide +kernel, by decide +kernel⟩
theorem xv5 : FnScope ["look", "told", "slot", "worth"] ["look", "told"] (xa4 xo3) := ⟨rfl, rfl, rfl, by decide +kernel, rfl, by decide +kernel, by decide +kernel⟩
theorem xl1 : FnScope ["cues", "number", "look", "cue", "part"] ["cues", "number"] (xa4 xl8) := ⟨rfl, rfl, rfl, by decide +kernel, rfl, by decide +kernel, by decide +kernel⟩
theorem yh7 : FnScope ["cues", "number", "cue"] ["cues", "number"] (xa4 xo4) := ⟨rfl, rfl, rfl, by decide +kernel, rfl, by decide +kernel, by decide +kernel⟩
theorem xu3 : FnScope ["cues", "number", "look", "cue", "part"] ["cues", "number"] (xa4 xs7) := ⟨rfl, rfl, rfl, by decide +kernel, rfl, by decide +kernel, by decide +kernel⟩
theorem yl9 : FnScope ["cues"] ["cues"] (xa4 xi5) := ⟨rfl, rfl, rfl, by decide +kernel, rfl, by decide +kernel, by decide +kernel⟩
theorem ya1 : (["cue", "cues"] : List Str).Nodup := by decide +kernel
theorem xz4 : FnScope ["thing"] ["thing"] (xa4 xf6) := ⟨rfl, rfl, rfl, by decide +kernel, rfl, by decide +kernel, by decide +kernel⟩
theorem xn5 : FnScope ["thing", "lamp"] ["thing"] (xa4 xe8) := ⟨rfl, rfl, rfl, by decide +kernel, rfl, by decide +kernel, by decide +kernel⟩
theorem xp4 : FnScope ["self", "words", "lamp", "number"] ["self", "words", "lamp", "number"] (xa4 xc9) := ⟨rfl, rfl, rfl, by decide +kernel, rfl, by decide +kernel, by decide +kernel⟩
theorem yt2 : FnScope ["look", "lamp"] ["look", "lamp"] (xa4 xl6) := ⟨rfl, rfl, rfl, by decide +kernel, rfl, by decide +kernel, by decide +kernel⟩
theorem yh5 : FnScope ["slot", "lamp"] ["slot", "lamp"] (xa4 xh2) := ⟨rfl, rfl, rfl, by decide +kernel, rfl, by decide +kernel, by decide +kernel⟩
theorem xk1 : FnScope ["look", "lamp", "stance", "slot", "worth"] ["look", "lamp"] (xa4 xh0) := ⟨rfl, rfl, rfl, by decide +kernel, rfl, by decide +kernel, by decide +kernel⟩
theorem xb6 : FnScope ["cues", "looks", "lamp", "found", "stance", "first", "place", "look"] ["cues", "looks", "lamp"] (xa4 xg9) := ⟨rfl, rfl, rfl, by decide +kernel, rfl, by decide +kernel, by decide +kernel⟩
theorem xg0 : FnScope ["cues", "lamps", "own", "looks", "found", "lamp"] ["cues", "lamps"] (xa4 xo2) := ⟨rfl, rfl, rfl, by decide +kernel, rfl, by decide +kernel, by decide +kernel⟩
theorem xq6 : FnScope ["cues", "lamps", "some", "numbers", "looks", "lamp", "turns", "stances"] ["cues", "lamps"] (xa4 xg5) := ⟨rfl, rfl, rfl, by decide +kernel, rfl, by decide +kernel, by decide +kernel⟩
theorem xz6 : FnScope ["_law_script", "_law_k"] ["_law_script", "_law_k"] (xa4 xf7) := ⟨rfl, rfl, rfl, by decide +kernel, rfl, by decide +kernel, by decide +kernel⟩
theorem yh4 : FnScope ["_law_script", "_law_k"] ["_law_script", "_law_k"] (xa4 xh1) := ⟨rfl, rfl, rfl, by decide +kernel, rfl, by decide +kernel, by decide +kernel⟩
theorem xv6 : FnScope ["_law_number", "_law_form", "_law_at"] ["_law_number", "_law_form"] (xa4 xi6) := ⟨rfl, rfl, rfl, by decide +kernel, rfl, by decide +kernel, by decide +kernel⟩
theorem xz5 : FnScope ["_law_number"] ["_law_number"] (xa4 xc7) := ⟨rfl, rfl, rfl, by decide +kernel, rfl, by decide +kernel, by decide +kernel⟩
theorem xf5 : FnScope ["_law_way", "_law_cues", "_law_lamps", "_law_caught", "e", "_law_found"] ["_law_way", "_law_cues", "_law_lamps"] (xa4 xg6) := ⟨rfl, rfl, rfl, by decide +kernel, rfl, by decide +kernel, by decide +kernel⟩
theorem ym0 : FnScope ["_law_cues", "_law_lamps", "_law_due"] ["_law_cues", "_law_lamps", "_law_due"] (xa4 xi7) := ⟨rfl, rfl, rfl, by decide +kernel, rfl, by decide +kernel, by decide +kernel⟩
theorem xj2 : FnScope ["_law_script", "_law_form", "_law_lamp", "_law_other", "_law_first", "_law_second", "_law_lit", "_law_cues", "_law_bright", "_law_k", "_law_number", "_law_lamps", "_law_none", "_law_thing", "_law_error"] ["_law_script"] (xa4 yt3) := ⟨rfl, rfl, rfl, by decide +kernel, rfl, by decide +kernel, by decide +kernel⟩
def spWh0 : Sp := fun vs H Q _ => ∃ i : Int, vs = [.int i] /\ Q (.bl true) H
variable {P : Program} {w : World} {K : Frag} {mg : Str -> Option Value} {base : Heap} {A : Adr}
theorem xm5 (T : Txt K mg A) : FnOk P w K mg base (CXE P w) 1 A.ea A.eb ["thing"] (spWh0) := by
 refine T.ea.okN ym2 (fun vs H Q E h => ?_) (fun cdv Ar outer s H vs Q E hr h => ?_)
 ·obtain ⟨i, rfl, k⟩ := h
  rfl
 ·obtain ⟨i, rfl, k⟩ := h
  refine ⟨_, (xa6 (xc0 (xn1 (xb2 (xg1 K) (by rfl) T.ek6 xb0 (xa0 (pv 0) (xa0 (xw1 (by rfl) T.el6 boot_int) xa2))) (xn6 (pe_not (xb2 (xg1 K) (by rfl) T.ek6 xb0 (xa0 (pv 0) (xa0 (xw1 (by rfl) T.em6 ze9) xa2)))))))), ?_⟩
  refine ⟨_, rfl, _, _, _, _, rfl, .int i, yf0 (.inr (.inr (.inl rfl))) (.inl rfl), _, rfl, iteT ?_⟩
  exact ⟨_, rfl, _, _, _, _, rfl, .int i, yf0 (.inr (.inr (.inl rfl))) (.inr (.inl rfl)), _, rfl, k⟩
def spTime0 : Sp := fun vs H Q _ => ∃ i : Int, vs = [.int i] /\ 0 <= i /\ i <= 1000000000 /\ Q (.bl true) H
theorem yb3 (T : Txt K mg A) : FnOk P w K mg base (CXE P w) 2 A.ec A.ed ["thing"] (spTime0) := by
 have G_is_whole := xm5 (P := P) (w := w) (base := base) T
 refine T.ed.okN ys8 (fun vs H Q E h => ?_) (fun cdv Ar outer s H vs Q E hr h => ?_)
 ·obtain ⟨i, rfl, h0, h1, k⟩ := h
  rfl
 ·obtain ⟨i, rfl, h0, h1, k⟩ := h
  refine ⟨_, (xa6 (xc0 (xn1 (xa8 G_is_whole (hr.mono (by decide)) (by rfl) T.ec T.ea.kp T.eb .nil xb4 (xa0 (pv 0) xa2)) (xn6 (xu4 xu0 xu0 xb1 (pv 0) (xw2 (by rfl) T.ez6)))))), ?_⟩
  refine ⟨_, rfl, i, rfl, _, rfl, iteT ?_⟩
  refine ⟨_, rfl, _, _, rfl, rfl, _, rfl, ?_⟩
  rw [decide_eq_true h0]
  refine iteT ⟨_, _, rfl, rfl, ?_⟩
  show Q (.bl (decide (i <= 1000000000))) H
  rw [decide_eq_true h1]
  exact k
def spNum0 : Sp := fun vs H Q _ => ∃ i : Int, vs = [.int i] /\ 1 <= i /\ i <= 1000000000 /\ Q (.bl true) H
theorem xu1 (T : Txt K mg A) : FnOk P w K mg base (CXE P w) 2 A.eq A.er ["thing"] (spNum0) := by
 have G_is_whole := xm5 (P := P) (w := w) (base := base) T
 refine T.ey.okN xt9 (fun vs H Q E h => ?_) (fun cdv Ar outer s H vs Q E hr h => ?_)
 ·obtain ⟨i, rfl, h0, h1, k⟩ := h
  rfl
 ·obtain ⟨i, rfl, h0, h1, k⟩ := h
  refine ⟨_, (xa6 (xc0 (xn1 (xa8 G_is_whole (hr.mono (by decide)) (by rfl) T.ec T.ea.kp T.eb .nil xb4 (xa0 (pv 0) xa2)) (xn6 (xu4 xu0 xu0 xb1 (pv 0) (xw2 (by rfl) T.ed7)))))), ?_⟩
  refine ⟨_, rfl, i, rfl, _, rfl, iteT ?_⟩
  refine ⟨_, rfl, _, _, rfl, rfl, _, rfl, ?_⟩
  rw [decide_eq_true h0]
  refine iteT ⟨_, _, rfl, rfl, ?_⟩
  show Q (.bl (decide (i <= 1000000000))) H
  rw [decide_eq_true h1]
  exact k
def spWorth0 : Sp := fun vs H Q _ => ∃ i : Int, vs = [.int i] /\ 0 <= i /\ i <= 1000000000 /\ Q (.bl true) H
theorem yn3 (T : Txt K mg A) : FnOk P w K mg base (CXE P w) 2 A.em A.en ["thing"] (spWorth0) := by
 have G_is_whole := xm5 (P := P) (w := w) (base := base) T
 refine T.es.okN ym1 (fun vs H Q E h => ?_) (fun cdv Ar outer s H vs Q E hr h => ?_)
 ·obtain ⟨i, rfl, h0, h1, k⟩ := h
  rfl
 ·obtain ⟨i, rfl, h0, h1, k⟩ := h
  refine ⟨_, (xa6 (xc0 (xn1 (xa8 G_is_whole (hr.mono (by decide)) (by rfl) T.ec T.ea.kp T.eb .nil xb4 (xa0 (pv 0) xa2)) (xn6 (xu4 xu0 xu0 xb1 (pv 0) (xw2 (by rfl) T.ec7)))))), ?_⟩
  refine ⟨_, rfl, i, rfl, _, rfl, iteT ?_⟩
  refine ⟨_, rfl, _, _, rfl, rfl, _, rfl, ?_⟩
  rw [decide_eq_true h0]
  refine iteT ⟨_, _, rfl, rfl, ?_⟩
  show Q (.bl (decide (i <= 1000000000))) H
  rw [decide_eq_true h1]
  exact k
def spRefW : Sp := fun vs H Q _ => ∃ i : Int, vs = [.int i] /\ 0 <= i /\ i <= 1000000000 /\ Q .non H
theorem xw4 (T : Txt K mg A) : FnOk P w K mg base (CXE P w) 3 A.eo A.ep ["thing"] (spRefW) := by
 have G_is_worth := yn3 (P := P) (w := w) (base := base) T
 refine T.ev.okN xv4 (fun vs H Q E h => ?_) (fun cdv Ar outer s H vs Q E hr h => ?_)
 ·obtain ⟨i, rfl, h0, h1, k⟩ := h
  rfl
 ·obtain ⟨i, rfl, h0, h1, k⟩ := h
  refine ⟨_, (xa6 (xe5 (xf1 (xe0 (xa8 G_is_worth (hr.mono (by decide)) (by rfl) T.eu T.es.kp T.et .nil xb4 (xa0 (pv 0) xa2)))) (xa6 xm4) xb7)), ?_⟩
  exact ⟨_, rfl, i, rfl, h0, h1, _, rfl, iteF k⟩
def xk9 (z : Str) : Bool := decide ((1 : Int) <= (z.length : Int)) && (decide ((z.length : Int) <= 8) && (cs z).all yj7)
inductive Lm (K : Frag) (H : Hp) : V -> Bool -> Prop
 | str (z : Str) (h : z.length <= 1000) : Lm K H (.str z) (xk9 z)
 | other (x : V) (t : String) (ty : TyOf K H x (.type t)) (h : kitOne K (.type t) (.type "str") = some false) : Lm K H x false
theorem Lm.keep {K : Frag} {H H' : Hp} {x : V} {c : Bool} (h : Lm K H x c) (s : Same H H') : Lm K H' x c := by
 cases h with
 | str z h => exact .str z h
 | other _ t ty h => exact .other x t (yo7 ty s) h
def spLamp (K : Frag) : Sp := fun vs H Q _ => ∃ x c, vs = [x] /\ Lm K H x c /\ ∀ H', Same H H' -> Q (.bl c) H'
theorem yb4 (T : Txt K mg A) : FnOk P w K mg base (CXE P w) 1 A.ee A.ef ["thing"] (spLamp K) := by
 refine T.eg.okN yt1 (fun vs H Q E h => ?_) (fun cdv Ar outer s H vs Q E hr h => ?_)
 ·obtain ⟨x, c, rfl, hk, k⟩ := h
  rfl
 ·obtain ⟨x, c, rfl, hk, k⟩ := h
  refine ⟨_, (xa5 (xe5 (xf1 (xe0 (xb2 (xg1 K) (by rfl) T.ek6 xb0 (xa0 (pv 0) (xa0 (xw1 (by rfl) T.en6 yl2) xa2))))) (xa6 (xc0 xj5)) xb7)
   (xa6 (xc0 (xn1 (xu4 xu0 xu0 xb1 (xb2 yk9 (by rfl) T.et6 PySem.boot_len (xa0 (pv 0) xa2)) (xw2 (by rfl) T.eb7)) (xn6 (xb2 (xm1 K rfl) (by rfl) T.eu6 xo8 (xa0 (xp5 ["sign"] [none] rfl (pi_str (pv 0)) (fun _ _ _ => (xc3 (i := 0) ye7 rfl (Or.inl rfl))) (fun _ _ _ => (xk8 za7 (pv 0) (pe_gstr (by rfl) T.ea7) (by with_unfolding_all rfl)))) xa2))))))), ?_⟩
  cases hk with
  | other _ t ty h =>
   refine xb8 (fun _ _ => False) (fun N hN => ?_) (fun _ _ z => z.elim)
   exact ⟨_, rfl, _, _, _, _, rfl, ty, h, _, rfl, iteT (k _ (Same.refl _))⟩
  | str z hz =>
   refine xb8 (fun σ' H' => σ' = [some (.str z)] /\ H' = H) (fun N hN => ?_) ?_
   ·exact ⟨_, rfl, _, _, _, _, rfl, .str z, yf0 (.inr (.inr (.inr rfl))) (.inr (.inr (.inl rfl))), _, rfl, iteF (hN _ _ ⟨rfl, rfl⟩)⟩
   rintro σ' H1 ⟨rfl, rfl⟩
   unfold xk9 at k
   refine ⟨_, rfl, _, rfl, xd7 hz, _, _, rfl, rfl, _, rfl, ?_⟩
   by_cases c1 : (1 : Int) <= (z.length : Int)
   ·rw [decide_eq_true c1] at k ⊢
    refine iteT ⟨_, _, rfl, rfl, _, rfl, ?_⟩
    by_cases c2 : (z.length : Int) <= 8
    ·rw [decide_eq_true c2] at k ⊢
     refine iteT ?_
     refine ⟨_, rfl, _, rfl, fun D hD => comp_str yj7 (fun σ => ∃ v, σ = [v]) hD hz ⟨_, rfl⟩ ?_ ?_⟩
     ·rintro c σ' H' N' hc ⟨v, rfl⟩ q
      refine ⟨_, rfl, _, _, rfl, rfl, ?_⟩
      rw [show (!(Builtin.Str.occurrences (Str.ofString "abcdefghijklmnopqrstuvwxyz") ⟨#[c]⟩ 0 (Str.ofString "abcdefghijklmnopqrstuvwxyz").length 1).isEmpty) = yj7 c from in_lets c]
      exact q _ ⟨_, rfl⟩
     ·intro H' s' hD'
      refine ⟨D, _, rfl, SqL.of hD', ?_⟩
      have ea : ((cs z).map yj7).all id = (cs z).all yj7 := by rw [List.all_map]; rfl
      rw [ea]
      exact k _ s'
    ·rw [decide_eq_false c2] at k ⊢
     exact iteF (k _ (Same.refl _))
   ·rw [decide_eq_false c1] at k ⊢
    exact iteF ⟨_, rfl, iteF (k _ (Same.refl _))⟩
abbrev xv2 : List V := [.str (Str.ofString "blue"), .str (Str.ofString "bright"), .str (Str.ofString "green"), .str (Str.ofString "pan"), .str (Str.ofString "red"), .str (Str.ofString "tilt")]
inductive Sd (K : Frag) (H : Hp) : V -> Bool -> Prop
 | str (z : Str) : Sd K H (.str z) (inV (.str z) xv2)
 | other (x : V) (t : String) (ty : TyOf K H x (.type t)) (h : kitOne K (.type t) (.type "str") = some false) : Sd K H x false
theorem Sd.keep {K : Frag} {H H' : Hp} {x : V} {c : Bool} (h : Sd K H x c) (s : Same H H') : Sd K H' x c := by
 cases h with
 | str z => exact .str z
 | other _ t ty h => exact .other x t (yo7 ty s) h
def spSideP (K : Frag) : Sp := fun vs H Q _ => ∃ x c, vs = [x] /\ Sd K H x c /\ Q (.bl c) H
theorem yu0 (T : Txt K mg A) : FnOk P w K mg base (CXE P w) 1 A.eg A.eh ["thing"] (spSideP K) := by
 refine T.ej.okN yt0 (fun vs H Q E h => ?_) (fun cdv Ar outer s H vs Q E hr h => ?_)
 ·obtain ⟨x, c, rfl, hk, k⟩ := h
  rfl
 ·obtain ⟨x, c, rfl, hk, k⟩ := h
  refine ⟨_, (xa6 (xc0 (xn1 (xb2 (xg1 K) (by rfl) T.ek6 xb0 (xa0 (pv 0) (xa0 (xw1 (by rfl) T.en6 yl2) xa2))) (xn6 (xk8 (yt7 K) (pv 0) (xk7 (v := V.ref _) (by rfl) T.ef7 rfl) (by with_unfolding_all rfl)))))), ?_⟩
  cases hk with
  | other _ t ty h => exact ⟨_, rfl, _, _, _, _, rfl, ty, h, _, rfl, iteF k⟩
  | str z =>
   refine ⟨_, rfl, _, _, _, _, rfl, .str z, yf0 (.inr (.inr (.inr rfl))) (.inr (.inr (.inl rfl))), _, rfl, iteT ?_⟩
   exact ⟨_, rfl, _, _, rfl, .inr (T.eg7 _), rfl, rfl, k⟩
inductive Sl (K : Frag) (H : Hp) : V -> Bool -> Prop
 | two (a : Addr) (y1 y2 : V) (b1 b2 : Bool) (h : H a = some (.tup [y1, y2])) (h1 : Lm K H y1 b1) (h2 : Sd K H y2 b2) : Sl K H (.ref a) (b1 && b2)
 | size (a : Addr) (xs : List V) (h : H a = some (.tup xs)) (hn : xs.length ≠ 2) : Sl K H (.ref a) false
 | other (x : V) (t : String) (ty : TyOf K H x (.type t)) (h : kitOne K (.type t) (.type "tuple") = some false) : Sl K H x false
theorem Sl.keep {K : Frag} {H H' : Hp} {x : V} {c : Bool} (h : Sl K H x c) (s : Same H H') : Sl K H' x c := by
 cases h with
 | two a y1 y2 b1 b2 h h1 h2 => exact .two a y1 y2 b1 b2 (s _ _ h) (h1.keep s) (h2.keep s)
 | size a xs h hn => exact .size a xs (s _ _ h) hn
 | other _ t ty h => exact .other x t (yo7 ty s) h
theorem yx0 {K : Frag} : kitOne K (.type "tuple") (.type "tuple") = some true := by kernel_rfl
def spSlot (K : Frag) : Sp := fun vs H Q _ => ∃ x c, vs = [x] /\ Sl K H x c /\ ∀ H', Same H H' -> Q (.bl c) H'
theorem yt9 (T : Txt K mg A) : FnOk P w K mg base (CXE P w) 2 A.ei A.ej ["thing"] (spSlot K) := by
 have G_is_lamp := yb4 (P := P) (w := w) (base := base) T
 have G_is_side := yu0 (P := P) (w := w) (base := base) T
 refine T.em.okN ys9 (fun vs H Q E h => ?_) (fun cdv Ar outer s H vs Q E hr h => ?_)
 ·obtain ⟨x, c, rfl, hk, k⟩ := h
  rfl
 ·obtain ⟨x, c, rfl, hk, k⟩ := h
  refine ⟨_, (xa5 (xe5 (PW.pt (ym4 (xf1 (xe0 (xb2 (xg1 K) (by rfl) T.ek6 xb0 (xa0 (pv 0) (xa0 (xw1 (by rfl) T.eo6 yd1) xa2))))) (xv9 (xf9 op_ne (xb2 (xj7 K) (by rfl) T.et6 PySem.boot_len (xa0 (pv 0) xa2)) xb1 (xf2 _))))) (xa6 (xc0 xj5)) xb7)
   (xa6 (xc0 (xn1 (xa8 G_is_lamp (hr.mono (by decide)) (by rfl) T.ei T.eg.kp T.eh .nil xb4 (xa0 (xj4 (yf1 K) (pv 0) xb1 (fun _ _ => rfl)) xa2)) (xn6 (xa8 G_is_side (hr.mono (by decide)) (by rfl) T.el T.ej.kp T.ek .nil xb4 (xa0 (xj4 (yf1 K) (pv 0) xb1 (fun _ _ => rfl)) xa2))))))), ?_⟩
  cases hk with
  | other _ t ty h =>
   refine xb8 (fun _ _ => False) (fun N hN => ?_) (fun _ _ z => z.elim)
   exact ⟨_, rfl, _, _, _, _, rfl, ty, h, _, rfl, iteT (iteT (k _ (Same.refl _)))⟩
  | size a xs h hn =>
   refine xb8 (fun _ _ => False) (fun N hN => ?_) (fun _ _ z => z.elim)
   refine ⟨_, rfl, _, _, _, _, rfl, .tup h, yx0, _, rfl, iteF ?_⟩
   refine ⟨_, rfl, a, _, rfl, .inr (SqT.of h), rfl, _, rfl, ?_⟩
   rw [decide_eq_false (show ¬ V.int (xs.length : Int) = V.int 2 from fun z => hn (by have := V.int.inj z; omega))]
   exact iteT (k _ (Same.refl _))
  | two a y1 y2 b1 b2 h h1 h2 =>
   refine xb8 (fun σ' H' => σ' = [some (.ref a)] /\ H' = H) (fun N hN => ?_) ?_
   ·refine ⟨_, rfl, _, _, _, _, rfl, .tup h, yx0, _, rfl, iteF ?_⟩
    refine ⟨_, rfl, a, _, rfl, .inr (SqT.of h), rfl, _, rfl, ?_⟩
    rw [decide_eq_true (show V.int (([y1, y2] : List V).length : Int) = V.int 2 from rfl)]
    exact iteF (hN _ _ ⟨rfl, rfl⟩)
   rintro σ' H1 ⟨rfl, rfl⟩
   refine ⟨_, rfl, a, _, _, _, rfl, rfl, SqT.of h, atI_0 _ _, _, _, rfl, h1, fun H2 s2 => ⟨_, rfl, ?_⟩⟩
   cases b1 with
   | false => exact iteF (k _ s2)
   | true => exact iteT ⟨_, rfl, a, _, _, _, rfl, rfl, SqT.of (s2 _ _ h), atI_1 _ _ _, _, _, rfl, h2.keep s2, k _ s2⟩
def spBright : Sp := fun vs H Q _ => ∃ (a : Addr) (l sd : Str), vs = [.ref a] /\ H a = some (.tup [.str l, .str sd]) /\ Q (.bl (decide (V.str sd = V.str (Str.ofString "bright")))) H
theorem yj0 (T : Txt K mg A) : FnOk P w K mg base (CXE P w) 1 A.ek A.el ["slot"] (spBright) := by
 refine T.ep.okN yh6 (fun vs H Q E h => ?_) (fun cdv Ar outer s H vs Q E hr h => ?_)
 ·obtain ⟨a, l, sd, rfl, h, k⟩ := h
  rfl
 ·obtain ⟨a, l, sd, rfl, h, k⟩ := h
  refine ⟨_, (xa6 (xc0 (xk8 yt8 (xj4 (yf1 K) (pv 0) xb1 (fun _ _ => rfl)) xe1 (xf2 _)))), ?_⟩
  exact ⟨_, rfl, a, _, _, _, rfl, rfl, SqT.of h, atI_1 _ _ _, rfl, k⟩
def movB (lamp l sd : Str) : Bool := decide (V.str l = V.str lamp) && !decide (V.str sd = V.str (Str.ofString "bright"))
def spMoving : Sp := fun vs H Q _ => ∃ (a : Addr) (l sd lamp : Str), vs = [.ref a, .str lamp] /\ H a = some (.tup [.str l, .str sd]) /\ Q (.bl (movB lamp l sd)) H
theorem yi9 (T : Txt K mg A) : FnOk P w K mg base (CXE P w) 2 A.ec2 A.ed2 ["slot", "lamp"] (spMoving) := by
 have G_is_bright := yj0 (P := P) (w := w) (base := base) T
 refine T.eh3.okN yh5 (fun vs H Q E h => ?_) (fun cdv Ar outer s H vs Q E hr h => ?_)
 ·obtain ⟨a, l, sd, lamp, rfl, h, k⟩ := h
  rfl
 ·obtain ⟨a, l, sd, lamp, rfl, h, k⟩ := h
  refine ⟨_, (xa6 (xc0 (xn1 (xk8 yt8 (xj4 (yf1 K) (pv 0) xb1 (fun _ _ => rfl)) (pv 1) (xf2 _)) (xn6 (pe_not (xa8 G_is_bright (hr.mono (by decide)) (by rfl) T.er T.ep.kp T.eq .nil xb4 (xa0 (pv 0) xa2))))))), ?_⟩
  unfold movB at k
  refine ⟨_, rfl, a, _, _, _, rfl, rfl, SqT.of h, atI_0 _ _, _, rfl, rfl, _, rfl, ?_⟩
  cases hb : decide (V.str l = V.str lamp) with
  | false => rw [hb] at k; exact iteF k
  | true => rw [hb] at k; exact iteT ⟨_, rfl, a, l, sd, rfl, h, _, rfl, k⟩
theorem kit_dd {K : Frag} : kitOne K (.type "dict") (.type "dict") = some true := by kernel_rfl
theorem yc2 {K : Frag} : kitOne K (.type "list") (.type "list") = some true := by kernel_rfl
abbrev xd1 (l sd : Str) : List Key := [Sum.inr l, Sum.inr sd]
def GoodKv (kv : List Key × V) : Prop := ∃ (l sd : Str) (i : Int), kv = (xd1 l sd, .int i) /\ xk9 l = true /\ l.length <= 1000 /\ inV (.str sd) xv2 = true /\ 1 <= i /\ i <= 1000000000
def xs3 (kvs : List (List Key × V)) : Prop := kvs.length <= 1 /\ ∀ kv ∈ kvs, GoodKv kv
theorem yx2 : xs3 [] := ⟨Nat.zero_le _, by simp⟩
theorem kt_keys {H : Hp} : ∀ {kvs : List (List Key × V)} {xs : List (List Key × Addr × Value)}, KT H kvs xs -> kvs.map (·.1) = xs.map (·.1) /\ ∀ x ∈ xs, H x.2.1 = some (.tup (x.1.map kV)) := by
 intro l m k
 induction k with
 | nil => exact ⟨rfl, fun x hx => by simp at hx⟩
 | @cons p q ps qs hq t ih =>
  refine ⟨by rw [List.map_cons, List.map_cons, hq.1, ih.1], fun x hx => ?_⟩
  rcases List.mem_cons.mp hx with e | hx
  ·subst e; rw [<- hq.1]; exact hq.2.1
  ·exact ih.2 x hx
theorem kt_good {H : Hp} {kvs : List (List Key × V)} {xs : List (List Key × Addr × Value)} (k : KT H kvs xs) (hg : ∀ kv ∈ kvs, GoodKv kv) : ∀ x ∈ xs, ∃ l sd, x.1 = xd1 l sd /\ xk9 l = true /\ l.length <= 1000 /\ inV (.str sd) xv2 = true /\ H x.2.1 = some (.tup [.str l, .str sd]) := by
 intro x hx
 obtain ⟨ke, kh⟩ := kt_keys k
 have : x.1 ∈ kvs.map (·.1) := by rw [ke]; exact List.mem_map.mpr ⟨x, hx, rfl⟩
 obtain ⟨kv, h1, h2⟩ := List.mem_map.mp this
 obtain ⟨l, sd, i, rfl, a, b, c, d, e⟩ := hg kv h1
 refine ⟨l, sd, h2.symm, a, b, c, ?_⟩
 have := kh x hx
 rw [<- h2] at this
 exact this
theorem yx1 {H H' : Hp} {d : Addr} {o : Obj} {kvs : List (List Key × V)} (hd : H d = some (.dT kvs)) (sm : Same (upd H d (held d o)) H') : xs4 H H' := fun b xs e => by
 refine sm b _ ?_
 rw [xa3 (xk0 e hd (by intro z; cases z))]; exact e
theorem yx8 {H H' : Hp} {d : Addr} {o : Obj} {kvs : List (List Key × V)} (hd : H d = some (.dT kvs)) (sm : Same (upd H d (held d o)) H') : Same H (upd H' d (.dT kvs)) := fun b u e => by
 by_cases hb : b = d
 ·subst hb; rw [hd] at e; cases e; exact xa1
 ·rw [xa3 hb]; exact sm b u (by rw [xa3 hb]; exact e)
theorem slot_ok {K : Frag} {H : Hp} {a : Addr} {l sd : Str} (h : H a = some (.tup [.str l, .str sd])) (hl : l.length <= 1000) (h1 : xk9 l = true) (h2 : inV (.str sd) xv2 = true) : Sl K H (.ref a) true := by
 have := Sl.two a _ _ _ _ h (Lm.str (K := K) (H := H) l hl) (Sd.str sd)
 rw [h1, h2] at this
 exact this
theorem ym9 {vs ys : List V} (h : Paired (fun _ v => v = V.bl true) vs ys) : ys = (vs.map fun _ => true).map V.bl := by
 induction h with
 | nil => rfl
 | cons q t ih => rw [List.map_cons, List.map_cons, <- ih, q]
def spKeys1 : Sp := fun vs H Q _ => ∃ d kvs, vs = [.ref d] /\ H d = some (.dT kvs) /\ xs3 kvs /\ ∀ H', Same H H' -> Q (.bl true) H'
theorem xp0 (T : Txt K mg A) : FnOk P w K mg base (CXE P w) 3 A.es A.et ["thing"] (spKeys1) := by
 have G_is_slot := yt9 (P := P) (w := w) (base := base) T
 refine T.eb1.okN xo9 (fun vs H Q E h => ?_) (fun cdv Ar outer s H vs Q E hr h => ?_)
 ·obtain ⟨d, kvs, rfl, hd, ht, k⟩ := h
  rfl
 ·obtain ⟨d, kvs, rfl, hd, ht, k⟩ := h
  refine ⟨_, (xa6 (xc0 (xn1 (xb2 (xg1 K) (by rfl) T.ek6 xb0 (xa0 (pv 0) (xa0 (xw1 (by rfl) T.eq6 xz0) xa2))) (xn6 (xb2 (xm1 K rfl) (by rfl) T.eu6 xo8 (xa0 (pe_hold (xp5 ["key"] [none] rfl (pi_key (pv 0)) (fun _ _ _ => (xc3 (i := 0) xm6 rfl (Or.inl rfl))) (fun _ _ _ => (xa8 G_is_slot (hr.mono (by decide)) (by rfl) T.eo T.em.kp T.en .nil xb4 (xa0 (pv 0) xa2))))) xa2)))))), ?_⟩
  refine ⟨_, rfl, _, _, _, true, rfl, .dT hd, kit_dd, true, rfl, iteT ?_⟩
  refine ⟨d, kvs, hd, fun o xs es ep D kt => ?_⟩
  have hv := xx6 D
  refine ⟨_, rfl, d, o, _, es, ep, rfl, xa1, D.sys, D.ex, D.data, hv, fun D' hD' => ?_⟩
  have ne : D' ≠ d := by rintro rfl; rw [xa1] at hD'; cases hD'
  have hD : H D' = none := by rw [xa3 ne] at hD'; exact hD'
  have hxl : xs.length <= 1 := by rw [<- Paired.length kt]; exact ht.1
  refine ze4 (fun _ v _ => v = V.bl true) (fun σ => ∃ z, σ = [z]) (fun _ _ _ _ _ h => h) xa1 hD' (by rw [List.length_map]; omega) ⟨_, rfl⟩ (fun x σ' G N hx ho sm q => ?_) fun ys G sm hl hp => ?_
  ·obtain ⟨z, rfl⟩ := ho
   obtain ⟨y, hy, rfl⟩ := List.mem_map.mp hx
   obtain ⟨l, sd, e1, e2, e3, e4, e5⟩ := kt_good kt ht.2 y hy
   have hG : G y.2.1 = some (.tup [.str l, .str sd]) := sm _ _ (by rw [xa3 (xk0 e5 hd (by intro z; cases z))]; exact e5)
   exact ⟨_, rfl, _, _, rfl, slot_ok hG e3 e2 e4, fun G2 s2 => q _ _ _ rfl s2 ⟨_, rfl⟩⟩
  ·refine ⟨sm _ _ xa1, yx1 hd sm, ?_⟩
   refine ⟨D', _, rfl, SqL.of (xs := ((xs.map fun x => V.ref x.2.1).map fun _ => true).map V.bl) ?_, ?_⟩
   ·rw [xa3 ne, hl, ym9 hp]
   ·rw [show ((xs.map fun x => V.ref x.2.1).map fun _ => true).all id = true by simp]
    exact k _ (yx8 hd sm)
def partF (d1 d2 : Addr) : List (Str × V) := [("tells", .ref d1), ("alone", .ref d2), ("rise", .int 0), ("fall", .int 0), ("wait", .int 0)]
def yg1 (A : Adr) (H : Hp) (p : Addr) (kvs : List (List Key × V)) : Prop := ∃ dx d1 d2, H p = some (.ins A.ea3 dx (partF d1 d2)) /\ H d1 = some (.dT kvs) /\ H d2 = some (.dT [])
theorem yg1.keep {A : Adr} {H H' : Hp} {p : Addr} {kvs : List (List Key × V)} (h : yg1 A H p kvs) (s : Same H H') : yg1 A H' p kvs := by
 obtain ⟨dx, d1, d2, a, b, c⟩ := h
 exact ⟨dx, d1, d2, s _ _ a, s _ _ b, s _ _ c⟩
def spPart1 (A : Adr) : Sp := fun vs H Q _ => ∃ (x dx d1 d2 : Addr) (kvs : List (List Key × V)), vs = [.ref x, .ref d1, .ref d2, .int 0, .int 0, .int 0] /\ H x = some (.ins A.ea3 dx []) /\ H d1 = some (.dT kvs) /\ H d2 = some (.dT []) /\ xs3 kvs /\
 ∀ H', yg1 A H' x kvs -> (∀ b o, b ≠ x -> H b = some o -> H' b = some o) -> Q .non H'
theorem yj1 (T : Txt K mg A) : FnOk P w K mg base (CXE P w) 4 A.eu A.ev ["self", "tells", "alone", "rise", "fall", "wait"] (spPart1 A) := by
 have G_has_slots_as_keys := xp0 (P := P) (w := w) (base := base) T
 have G_is_time := yb3 (P := P) (w := w) (base := base) T
 have G_refuse_worth := xw4 (P := P) (w := w) (base := base) T
 refine T.ee1.okN xk2 (fun vs H Q E h => ?_) (fun cdv Ar outer s H vs Q E hr h => ?_)
 ·obtain ⟨x, dx, d1, d2, kvs, rfl, hx, h1, h2, ht, k⟩ := h
  rfl
 ·obtain ⟨x, dx, d1, d2, kvs, rfl, hx, h1, h2, ht, k⟩ := h
  refine ⟨_, (xa5 (xg7 PassesOwn.never rfl (ym8 K (xk6 (xa0 (pv 1) (xa0 (pv 2) xa2)))) (xc3 (i := 6) xk2.nd rfl (Or.inl rfl)) (xa6 (xe5 (xf1 (xe0 (xa8 G_has_slots_as_keys (hr.mono (by decide)) (by rfl) T.ed1 T.eb1.kp T.ec1 .nil xb4 (xa0 (pv 6) xa2)))) (xa6 xm4) xb7)))
   (xa5 (xg7 PassesOwn.never rfl (ym8 K (xk6 (xa0 (pv 1) (xa0 (pv 2) xa2)))) (xc3 (i := 6) xk2.nd rfl (Or.inl rfl)) (xa6 (ym5 (xg7 PassesOwn.never rfl (pi_val (yz9 (pv 6))) (xc3 (i := 7) xk2.nd rfl (Or.inl rfl)) (xa6 (xg8 (xa8 G_refuse_worth (hr.mono (by decide)) (by rfl) T.ex T.ev.kp T.ew .nil xb4 (xa0 (pv 7) xa2))))))))
   (xa5 (xe5 (xf1 (xe0 (xb2 (xm1 K rfl) (by rfl) T.eu6 xo8 (xa0 (xp5 ["ticks"] [none] rfl (ym8 K (xk6 (xa0 (pv 3) (xa0 (pv 4) (xa0 (pv 5) xa2))))) (fun _ _ _ => (xc3 (i := 0) xw8 rfl (Or.inl rfl))) (fun _ _ _ => (xa8 G_is_time (hr.mono (by decide)) (by rfl) T.ef T.ed.kp T.ee .nil xb4 (xa0 (pv 0) xa2)))) xa2)))) (xa6 xm4) xb7)
   (xa5 (xq8 (pv 0) (xf4 yd0 (by rfl) T.eq6 xz0 (xa0 (pv 1) xa2)) rfl)
   (xa5 (xq8 (pv 0) (xf4 yd0 (by rfl) T.eq6 xz0 (xa0 (pv 2) xa2)) rfl)
   (xa5 (xq8 (pv 0) (pv 3) rfl)
   (xa5 (xq8 (pv 0) (pv 4) rfl)
   (xa6 (xq8 (pv 0) (pv 5) rfl))))))))), ?_⟩
  refine ⟨_, rfl, _, rfl, (by show 2 <= 1000; decide), fun t ht1 => ?_⟩
  have s0 : Same H (upd H t (.tup [.ref d1, .ref d2])) := Same.new ht1
  refine ⟨t, rfl, ⟨_, SqT.of xa1⟩, zd1 (xs := [.ref d1, .ref d2]) (fun _ σ' H' => ∃ z : Option V, σ' = [some (.ref x), some (.ref d1), some (.ref d2), some (.int 0), some (.int 0), some (.int 0), z, none] /\ Same (upd H t (.tup [.ref d1, .ref d2])) H') ⟨none, rfl, Same.refl _⟩ (fun i σ' H' _ hp => ?_) (fun i v σ' H' hv hp => ?_) fun σ' H' hp => ?_⟩
  ·obtain ⟨z, _, sm⟩ := hp; exact SqT.of (sm _ _ xa1)
  ·obtain ⟨z, rfl, sm⟩ := hp
   obtain ⟨d, js, rfl, hd, htd⟩ : ∃ d js, v = .ref d /\ H d = some (.dT js) /\ xs3 js := by
    rcases List.mem_cons.mp (List.mem_of_getElem? hv) with e | e
    ·exact ⟨d1, kvs, e, h1, ht⟩
    ·exact ⟨d2, [], by simpa using e, h2, yx2⟩
   exact ⟨_, rfl, d, js, rfl, sm _ _ (s0 _ _ hd), htd, fun H2 sm2 => ⟨_, rfl, iteF ⟨_, rfl, sm.trans sm2⟩⟩⟩
  obtain ⟨z, rfl, sm⟩ := hp
  have sA : Same H H' := s0.trans sm
  clear sm s0
  refine ⟨_, rfl, _, rfl, (by show 2 <= 1000; decide), fun t2 ht2 => ?_⟩
  have s2 : Same H (upd H' t2 (.tup [.ref d1, .ref d2])) := sA.trans (Same.new ht2)
  refine ⟨t2, rfl, ⟨_, SqT.of xa1⟩, zd1 (xs := [.ref d1, .ref d2]) (fun _ σ' G => ∃ z z2 : Option V, σ' = [some (.ref x), some (.ref d1), some (.ref d2), some (.int 0), some (.int 0), some (.int 0), z, z2] /\ Same (upd H' t2 (.tup [.ref d1, .ref d2])) G) ⟨z, none, rfl, Same.refl _⟩ (fun i σ' G _ hp => ?_) (fun i v σ' G hv hp => ?_) fun σ' G hp => ?_⟩
  ·obtain ⟨z, z2, _, sm⟩ := hp; exact SqT.of (sm _ _ xa1)
  ·obtain ⟨z, z2, rfl, sm⟩ := hp
   obtain ⟨d, js, rfl, hd, htd⟩ : ∃ d js, v = .ref d /\ H d = some (.dT js) /\ xs3 js := by
    rcases List.mem_cons.mp (List.mem_of_getElem? hv) with e | e
    ·exact ⟨d1, kvs, e, h1, ht⟩
    ·exact ⟨d2, [], by simpa using e, h2, yx2⟩
   have hd' : G d = some (.dT js) := sm _ _ (s2 _ _ hd)
   refine ⟨d, js, hd', fun o xs es ep D kt => ?_⟩
   have hvl := xu9 D kt
   refine ⟨_, rfl, d, o, es, ep, rfl, xa1, D.sys, D.ex, D.data, fun p hp => ?_⟩
   have pd : d ≠ p := by rintro rfl; rw [xa1] at hp; cases hp
   refine ⟨p, d, o, _, es, ep, rfl, xa1, by rw [xa3 pd, xa1], D.ex, D.data, hvl, ?_⟩
   have sp : Same (upd G d (held d o)) (upd (upd G d (held d o)) p (yw4 "dict_values" p d)) := Same.new hp
   refine for_held (fun _ σ' G' => ∃ z2 : Option V, σ' = [some (.ref x), some (.ref d1), some (.ref d2), some (.int 0), some (.int 0), some (.int 0), some (.ref d), z2] /\ Same (upd G d (held d o)) G') ⟨_, rfl, sp⟩ (fun i σ' G' _ hq => ?_) (fun i v σ' G' hv hq => ?_) fun σ' G' hq => ?_
   ·obtain ⟨_, _, sm'⟩ := hq; exact sm' _ _ xa1
   ·obtain ⟨_, rfl, sm'⟩ := hq
    rw [List.getElem?_map] at hv
    cases hj : js[i]? with
    | none => rw [hj] at hv; cases hv
    | some kv =>
     rw [hj] at hv
     obtain ⟨l, sd, n, rfl, _, _, _, n0, n1⟩ := htd.2 kv (List.mem_of_getElem? hj)
     obtain rfl : V.int n = v := by simpa using hv
     exact ⟨_, rfl, n, rfl, by omega, n1, ⟨_, rfl, sm'⟩⟩
   ·obtain ⟨z2, rfl, sm'⟩ := hq
    exact ⟨sm' _ _ xa1, yx1 hd' sm', ⟨_, _, rfl, sm.trans (yx8 hd' sm')⟩⟩
  obtain ⟨z2, z3, rfl, sm⟩ := hp
  have sB : Same H G := s2.trans sm
  clear sm s2 sA
  refine ⟨_, rfl, _, rfl, _, rfl, (by show 3 <= 1000; decide), fun t3 ht3 => ⟨t3, rfl, ⟨_, SqT.of xa1⟩, fun D3 hD3 => ?_⟩⟩
  refine comp_tpm (fun _ => .bl true) (fun σ => σ.length = 1) xa1 hD3 (by show 3 <= 1000; decide) rfl (fun v σ' G2 N hv ho sm q => ?_) fun G2 sm hl => ?_
  ·have e : v = .int 0 := by simpa using hv
   subst e
   match σ', ho with
   | [_], _ => exact ⟨_, rfl, 0, rfl, by decide, by decide, q _ _ (Same.refl _) rfl⟩
  have sC : Same H G2 := sB.trans ((Same.new ht3).trans sm)
  refine ⟨D3, [true, true, true], rfl, SqL.of hl, _, rfl, iteF ?_⟩
  clear sm sB
  have x1 := sC _ _ hx
  refine ⟨_, rfl, d1, kvs, rfl, sC _ _ h1, ht.1, fun e1 he1 => ⟨_, rfl, x, A.ea3, dx, _, rfl, by rw [xa3 (xa7 x1 he1)]; exact x1, T.er4, T.et4, (by show 0 < 1000; decide), ?_⟩⟩
  have n1 : x ≠ e1 := xa7 x1 he1
  have m2 : d2 ≠ x := xk0 h2 hx (by intro z; cases z)
  have m2' : d2 ≠ e1 := xa7 (sC _ _ h2) he1
  refine ⟨_, rfl, d2, [], rfl, by rw [xa3 m2, xa3 m2']; exact sC _ _ h2, Nat.zero_le _, fun e2 he2 => ?_⟩
  have n2 : x ≠ e2 := by rintro rfl; rw [xa1] at he2; cases he2
  have n12 : e1 ≠ e2 := by rintro rfl; rw [xa3 (Ne.symm n1), xa1] at he2; cases he2
  have he2' : G2 e2 = none := by rw [xa3 (Ne.symm n2), xa3 (Ne.symm n12)] at he2; exact he2
  refine ⟨_, rfl, x, A.ea3, dx, _, rfl, by rw [xa3 n2, xa1], T.er4, T.eu4, (by show 1 < 1000; decide), ?_⟩
  refine ⟨_, rfl, _, rfl, x, A.ea3, dx, _, rfl, xa1, T.er4, T.ev4, (by show 2 < 1000; decide), ?_⟩
  refine ⟨_, rfl, _, rfl, x, A.ea3, dx, _, rfl, xa1, T.er4, T.ew4, (by show 3 < 1000; decide), ?_⟩
  refine ⟨_, rfl, _, rfl, x, A.ea3, dx, _, rfl, xa1, T.er4, T.ex4, (by show 4 < 1000; decide), ?_⟩
  refine k _ ⟨dx, e1, e2, xa1, ?_, ?_⟩ fun b o hb e => ?_
  ·rw [xa3 (Ne.symm n1), xa3 (Ne.symm n1), xa3 (Ne.symm n1), xa3 (Ne.symm n1), xa3 n12, xa3 (Ne.symm n1), xa1]
  ·rw [xa3 (Ne.symm n2), xa3 (Ne.symm n2), xa3 (Ne.symm n2), xa3 (Ne.symm n2), xa1]
  ·have b1 : b ≠ e1 := xa7 (sC _ _ e) he1
   have b2 : b ≠ e2 := xa7 (sC _ _ e) he2'
   rw [xa3 hb, xa3 hb, xa3 hb, xa3 hb, xa3 b2, xa3 hb, xa3 b1]
   exact sC _ _ e
theorem zd2 {d1 d2 : Addr} : List.lookup ("tells" : Str) (partF d1 d2) = some (V.ref d1) := rfl
theorem zd3 {d1 d2 : Addr} : List.lookup ("alone" : Str) (partF d1 d2) = some (V.ref d2) := rfl
theorem yq9 {kvs : List (List Key × V)} (h : xs3 kvs) : ∀ kv ∈ kvs, xm2 kv.1 := fun kv hk => by
 obtain ⟨l, sd, i, rfl, _⟩ := h.2 kv hk
 refine ⟨by simp, fun x hx => ?_⟩
 simp only [List.mem_cons, List.not_mem_nil, or_false] at hx
 rcases hx with rfl | rfl <;> exact ⟨_, rfl⟩
def xz3 (H : Hp) (bs : List Addr) : Prop := ∀ b ∈ bs, ∃ k, xm2 k /\ H b = some (.tup (k.map kV))
theorem xz3.keep {H H' : Hp} {bs : List Addr} (h : xz3 H bs) (s : xs4 H H') : xz3 H' bs := fun b hb => let ⟨k, a, e⟩ := h b hb; ⟨k, a, s _ _ e⟩
def spSlots1 (A : Adr) : Sp := fun vs H Q _ => ∃ p kvs, vs = [.ref p] /\ yg1 A H p kvs /\ xs3 kvs /\ ∀ l bs H', H l = none -> H' l = some (.lst (bs.map V.ref)) -> bs.length <= 1 -> xz3 H' bs -> Same H H' -> Q (.ref l) H'
theorem xr0 (T : Txt K mg A) : FnOk P w K mg base (CXE P w) 1 A.ey A.ez ["self"] (spSlots1 A) := by
 refine T.ek1.okN xq7 (fun vs H Q E h => ?_) (fun cdv Ar outer s H vs Q E hr h => ?_)
 ·obtain ⟨p, kvs, rfl, hp, ht, k⟩ := h
  rfl
 ·obtain ⟨p, kvs, rfl, hp, ht, k⟩ := h
  refine ⟨_, (xa6 (xc0 (xb2 (yw1 rfl) (by rfl) T.es6 xp9 (xa0 (xd9 (op_setOr hr.units) (xf4 (yk7 hr.units) (by rfl) T.er6 xs0 (xa0 (xd5 K (pv 0)) xa2)) (xf4 (yk7 hr.units) (by rfl) T.er6 xs0 (xa0 (xd5 K (pv 0)) xa2))) xa2)))), ?_⟩
  obtain ⟨dx, d1, d2, hp, h1, h2⟩ := hp
  refine ⟨_, rfl, p, A.ea3, dx, _, _, rfl, hp, T.er4, T.et4, zd2, ?_⟩
  refine ⟨d1, kvs, rfl, h1, Nat.le_trans ht.1 (by decide), yq9 ht, fun a zs ha hz1 hk1 => ?_⟩
  have sa : ∀ o, Same H (upd H a o) := fun o => Same.new ha
  refine ⟨_, rfl, p, A.ea3, dx, _, _, rfl, sa _ _ _ hp, T.er4, T.eu4, zd3, ?_⟩
  refine ⟨d2, [], rfl, sa _ _ _ h2, Nat.zero_le _, by simp, fun b ws hb hz2 hk2 => ?_⟩
  have hw : ws = [] := by have := hz2.length_eq; simpa using this
  subst hw
  have nab : a ≠ b := by rintro rfl; rw [xa1] at hb; cases hb
  have hb0 : H b = none := by rw [xa3 (Ne.symm nab)] at hb; exact hb
  have sb : ∀ o o', Same H (upd (upd H a o) b o') := fun o o' => (sa o).trans (Same.new (by rw [xa3 (Ne.symm nab)]; exact hb0))
  have hzl : zs.length = kvs.length := by have := hz1.length_eq; simpa using this
  have tz : ∀ z ∈ zs, xm2 z.1 := fun z hz => by
   obtain ⟨kv, h1, h2⟩ := List.mem_map.mp (hz1.mem_iff.mp (List.mem_map.mpr ⟨z, hz, rfl⟩))
   rw [<- h2]; exact yq9 ht kv h1
  refine ⟨a, b, zs, [], rfl, rfl, by rw [xa3 nab, xa1], xa1, nab, fun z hz => sb _ _ _ _ (hk1 z hz), fun z hz => by simp at hz, tz, fun z hz => by simp at hz, by have := ht.1; simp; omega, fun c vs hc bth nd => ?_⟩
  have nac : a ≠ c := by rintro rfl; rw [xa3 nab, xa1] at hc; cases hc
  have nbc : b ≠ c := by rintro rfl; rw [xa1] at hc; cases hc
  have hc0 : H c = none := by rw [xa3 (Ne.symm nbc), xa3 (Ne.symm nac)] at hc; exact hc
  have sc : ∀ o o' o'', Same H (upd (upd (upd H a o) b o') c o'') := fun o o' o'' => (sb o o').trans (Same.new (by rw [xa3 (Ne.symm nbc), xa3 (Ne.symm nac)]; exact hc0))
  have from1 : ∀ v ∈ vs, v ∈ zs := fun v hv => by
   rcases bth.from_ v hv with q | q
   ·exact q
   ·simp at q
  have hvl : vs.length <= 1 := by
   have h1 : (vs.map (·.1)).length <= (zs.map (·.1)).length := LS.xu6 nd fun x hx => by
    obtain ⟨v, hv, rfl⟩ := List.mem_map.mp hx
    exact List.mem_map.mpr ⟨v, from1 v hv, rfl⟩
   rw [List.length_map, List.length_map] at h1
   have := ht.1
   omega
  refine ⟨c, vs, rfl, xa1, fun v hv => sc _ _ _ _ _ (hk1 v (from1 v hv)), fun v hv => tz v (from1 v hv), by omega, fun l bs hl pb => ?_⟩
  have nal : a ≠ l := by rintro rfl; rw [xa3 nac, xa3 nab, xa1] at hl; cases hl
  have nbl : b ≠ l := by rintro rfl; rw [xa3 nbc, xa1] at hl; cases hl
  have ncl : c ≠ l := by rintro rfl; rw [xa1] at hl; cases hl
  have hl0 : H l = none := by rw [xa3 (Ne.symm ncl), xa3 (Ne.symm nbl), xa3 (Ne.symm nal)] at hl; exact hl
  refine k l bs _ hl0 xa1 (by rw [pb.length_eq, List.length_map]; exact hvl) (fun y hy => ?_) ((sc _ _ _).trans (Same.new hl))
  obtain ⟨v, hv, rfl⟩ := List.mem_map.mp (pb.mem_iff.mp hy)
  exact ⟨v.1, tz v (from1 v hv), (Same.new hl) _ _ (sc _ _ _ _ _ (hk1 v (from1 v hv)))⟩
def spParts1 (A : Adr) : Sp := fun vs H Q _ => ∃ (l p : Addr) (kvs : List (List Key × V)), vs = [.ref l] /\ H l = some (.lst [.ref p]) /\ yg1 A H p kvs /\ xs3 kvs /\ ∀ H', Same H H' -> Q (.bl true) H'
theorem xw6 (T : Txt K mg A) : FnOk P w K mg base (CXE P w) 3 A.ea1 A.eb1 ["thing"] (spParts1 A) := by
 have G_Part_told_slots := xr0 (P := P) (w := w) (base := base) T
 refine T.en1.okN xj3 (fun vs H Q E h => ?_) (fun cdv Ar outer s H vs Q E hr h => ?_)
 ·obtain ⟨l, p, kvs, rfl, hl, hp, ht, k⟩ := h
  rfl
 ·obtain ⟨l, p, kvs, rfl, hl, hp, ht, k⟩ := h
  refine ⟨_, (xa5 (xe5 (PW.pt (ym4 (xf1 (xe0 (xb2 (xg1 K) (by rfl) T.ek6 xb0 (xa0 (pv 0) (xa0 (xw1 (by rfl) T.ep6 xj8) xa2))))) (xv9 (xf1 (pt_chain xu0 xu0 xb1 (xb2 (xj7 K) (by rfl) T.et6 PySem.boot_len (xa0 (pv 0) xa2)) (xw2 (by rfl) T.ee7)))))) (xa6 (xc0 xj5)) xb7)
   (xa5 (xe5 (xf1 (xe0 (xb2 (xm1 K rfl) (by rfl) T.eu6 xo8 (xa0 (xp5 ["part"] [none] rfl (xf8 K (pv 0)) (fun _ _ _ => (xc3 (i := 0) xr3 rfl (Or.inl rfl))) (fun _ _ _ => (xb2 (xy8 K) (by rfl) T.ek6 xb0 (xa0 (pv 0) (xa0 (xk7 (v := V.ref _) (by rfl) T.es4 rfl) xa2))))) xa2)))) (xa6 (xc0 xj5)) xb7)
   (xa5 (xc2 (i := 1) xj3.nd rfl (Or.inl rfl) (xc1 xa2))
   (xa5 (xg7 PassesOwn.never rfl (xf8 K (pv 0)) (xc3 (i := 2) xj3.nd rfl (Or.inl rfl)) (xa6 (xg8 (yb0 K PySem.F.plainAttrs_list PySem.F.slot_list_extend PySem.F.type_list_extend xx0 (pv 1) (xa0 (pe_meth0 (pv 2) T.er4 T.em1 G_Part_told_slots (hr.mono (by decide)) T.el1 .nil xb4) xa2)))))
   (xa6 (xc0 (xk8 yt8 (xb2 (xj7 K) (by rfl) T.et6 PySem.boot_len (xa0 (pv 1) xa2)) (xb2 ze8 (by rfl) T.et6 PySem.boot_len (xa0 (xf4 (ze6 rfl hr.units) (by rfl) T.er6 xs0 (xa0 (pv 1) xa2)) xa2)) (xf2 _)))))))), ?_⟩
  refine ⟨_, rfl, _, _, _, true, rfl, .lst hl, yc2, true, rfl, iteF ?_⟩
  refine ⟨_, rfl, _, _, rfl, .inl (SqL.of hl), _, _, rfl, rfl, _, rfl, ?_⟩
  refine iteT ⟨_, _, rfl, rfl, _, rfl, ?_⟩
  refine iteF ?_
  refine ⟨_, rfl, l, rfl, ⟨_, SqL.of hl⟩, fun D hD => ?_⟩
  refine yf5 (fun _ => .bl true) (fun σ => σ.length = 1) (SqL.of hl) hD (by show 1 <= 1000; decide) rfl (fun v σ' G N hv ho sm q => ?_) fun G sm hDl => ?_
  ·obtain rfl : v = V.ref p := by simpa using hv
   obtain ⟨dx, d1, d2, e, _, _⟩ := hp.keep sm
   match σ', ho with
   | [_], _ => exact ⟨_, rfl, _, _, _, true, rfl, T.ey4 _ _ _ _ e, T.ez4, q _ _ (Same.refl _) rfl⟩
  refine ⟨D, [true], rfl, SqL.of hDl, _, rfl, iteF ?_⟩
  refine ⟨by decide, fun S hS => ?_⟩
  have sS : Same H (upd G S (.lst [])) := sm.trans (Same.new hS)
  have nS : H S = none := sm.free hS
  refine ⟨_, rfl, l, rfl, ⟨_, SqL.of (sS _ _ hl)⟩, xh7 (xs := [V.ref p]) (fun i σ' G' => ∃ (z : Option V) (bs : List Addr), σ' = [some (.ref l), some (.ref S), z] /\ Same H G' /\ G' S = some (.lst (bs.map V.ref)) /\ (i = 0 -> bs = []) /\ bs.length <= 1 /\ xz3 G' bs) ⟨none, [], rfl, sS, xa1, fun _ => rfl, Nat.zero_le _, fun b hb => by simp at hb⟩ (fun i σ' G' _ hq => ?_) (fun i v σ' G' hv hq => ?_) fun σ' G' hq => ?_⟩
  ·obtain ⟨z, bs, _, s2, _⟩ := hq; exact SqL.of (s2 _ _ hl)
  ·obtain ⟨z, bs, rfl, s2, hS2, h0, _, _⟩ := hq
   have hi : i = 0 := by
    have := (List.getElem?_eq_some_iff.mp hv).1
    simpa using this
   subst hi
   obtain rfl := h0 rfl
   obtain rfl : V.ref p = v := by simpa using hv
   have pk := hp.keep s2
   obtain ⟨dx, d1, d2, e, e1, e2⟩ := id pk
   refine ⟨_, rfl, .inl ⟨rfl, _, SqL.of hS2⟩, _, rfl, p, dx, _, rfl, e, rfl, p, kvs, rfl, pk, ht, fun b bs G2 hb hbl hb1 hsl s3 => ?_⟩
   have tS : xs4 G2 (upd G2 S (.lst ([] ++ bs.map V.ref))) := fun c ys ec => by
    rw [xa3 (xk0 ec (s3 _ _ hS2) (by intro z; cases z))]; exact ec
   refine ⟨S, b, [], bs.map V.ref, rfl, rfl, s3 _ _ hS2, hbl, xd7 (by rw [List.length_map]; simp; omega), ⟨_, bs, rfl, (s2.trans s3).upd nS, xa1, fun z => by simp at z, hb1, hsl.keep tS⟩⟩
  obtain ⟨z, bs, rfl, s2, hS2, _, hb1, hsl⟩ := hq
  obtain ⟨ks, hks, hka⟩ : ∃ ks : List (List Key × Addr), ks.map (·.2) = bs /\ ∀ z ∈ ks, xm2 z.1 /\ G' z.2 = some (.tup (z.1.map kV)) := by
   match bs, hb1, hsl with
   | [], _, _ => exact ⟨[], rfl, by simp⟩
   | [b], _, h =>
    obtain ⟨k, a, e⟩ := h b (by simp)
    refine ⟨[(k, b)], rfl, fun z hz => ?_⟩
    obtain rfl : z = (k, b) := by simpa using hz
    exact ⟨a, e⟩
  have hkl : ks.length = bs.length := by rw [<- hks, List.length_map]
  have hSk : G' S = some (.lst (ks.map fun x => V.ref x.2)) := by rw [hS2, <- hks, List.map_map]; rfl
  refine ⟨_, rfl, S, _, rfl, .inl (SqL.of hS2), _, rfl, S, ks, rfl, hSk, fun z hz => (hka z hz).2, fun z hz => (hka z hz).1, by omega, fun q zs hq fs nd => ?_⟩
  have hzl : zs.length = bs.length := by
   match ks, hkl, fs with
   | [], hkl, fs =>
    have : zs = [] := by
     cases zs with
     | nil => rfl
     | cons a b => have := fs.from_ a (by simp); simp at this
    rw [this, <- hkl]
   | [y], hkl, fs =>
    have h1 : y.1 ∈ zs.map (·.1) := (fs.keys y.1).mpr (by simp)
    have h2 : (zs.map (·.1)).length <= [y.1].length := LS.xu6 nd fun x hx => by
     have := (fs.keys x).mp hx
     simpa using this
    have h3 : 0 < (zs.map (·.1)).length := List.length_pos_of_mem h1
    rw [List.length_map] at h2 h3
    rw [<- hkl]
    simp at h2 ⊢
    omega
   | _ :: _ :: _, hkl, _ => simp at hkl; omega
  have kq : xs5 (upd G' q (setO P w q zs)) zs := fun z hz => (Same.new hq) _ _ (hka z (fs.from_ z hz)).2
  refine ⟨q, zs, rfl, xa1, kq, rfl, ?_⟩
  rw [show decide (V.int ((bs.map V.ref).length : Nat) = V.int (zs.length : Nat)) = true from decide_eq_true (by rw [List.length_map, hzl])]
  exact k _ (s2.trans (Same.new hq))
structure Cu where
 n : Int
 kvs : List (List Key × V)
def cueF (n : Int) (L : Addr) : List (Str × V) := [("number", .int n), ("parts", .ref L), ("stops", .bl false), ("follow", .non)]
def CueU (A : Adr) (H : Hp) (c : Addr) (u : Cu) : Prop := ∃ dx L p, H c = some (.ins A.eb3 dx (cueF u.n L)) /\ H L = some (.lst [.ref p]) /\ yg1 A H p u.kvs /\ xs3 u.kvs
theorem CueU.keep {A : Adr} {H H' : Hp} {c : Addr} {u : Cu} (h : CueU A H c u) (s : Same H H') : CueU A H' c u := by
 obtain ⟨dx, L, p, a, b, d, t⟩ := h
 exact ⟨dx, L, p, s _ _ a, s _ _ b, d.keep s, t⟩
def spCue1 (A : Adr) : Sp := fun vs H Q _ => ∃ (x dx l p : Addr) (n : Int) (kvs : List (List Key × V)), vs = [.ref x, .int n, .ref l, .bl false, .non] /\ H x = some (.ins A.eb3 dx []) /\ 1 <= n /\ n <= 1000000000 /\ H l = some (.lst [.ref p]) /\ yg1 A H p kvs /\ xs3 kvs /\
 ∀ H', CueU A H' x ⟨n, kvs⟩ -> (∀ b o, b ≠ x -> H b = some o -> H' b = some o) -> Q .non H'
theorem yn4 (T : Txt K mg A) : FnOk P w K mg base (CXE P w) 4 A.ec1 A.ed1 ["self", "number", "parts", "stops", "follow"] (spCue1 A) := by
 have G_is_cue_number := xu1 (P := P) (w := w) (base := base) T
 have G_is_part_list := xw6 (P := P) (w := w) (base := base) T
 have G_is_time := yb3 (P := P) (w := w) (base := base) T
 refine T.eq1.okN ym3 (fun vs H Q E h => ?_) (fun cdv Ar outer s H vs Q E hr h => ?_)
 ·obtain ⟨x, dx, l, p, n, kvs, rfl, hx, hn1, hn2, hl, hp, ht, k⟩ := h
  rfl
 ·obtain ⟨x, dx, l, p, n, kvs, rfl, hx, hn1, hn2, hl, hp, ht, k⟩ := h
  refine ⟨_, (xa5 (xe5 (xf1 (xe0 (xa8 G_is_cue_number (hr.mono (by decide)) (by rfl) T.ea1 T.ey.kp T.ez .nil xb4 (xa0 (pv 1) xa2)))) (xa6 xm4) xb7)
   (xa5 (xe5 (xf1 (xe0 (xa8 G_is_part_list (hr.mono (by decide)) (by rfl) T.ep1 T.en1.kp T.eo1 .nil xb4 (xa0 (pv 2) xa2)))) (xa6 xm4) xb7)
   (xa5 (xe5 (PW.pt (pw_and (pt_cmp (za2 (pv 4))) (pw_and1 (xf1 (xe0 (xa8 G_is_time (hr.mono (by decide)) (by rfl) T.ef T.ed.kp T.ee .nil xb4 (xa0 (pv 4) xa2))))))) (xa6 xm4) xb7)
   (xa5 (xq8 (pv 0) (pv 1) rfl)
   (xa5 (xq8 (pv 0) (xf4 (xt1 K) (by rfl) T.ep6 xj8 (xa0 (pv 2) xa2)) rfl)
   (xa5 (xq8 (pv 0) (pv 3) rfl)
   (xa6 (xq8 (pv 0) (pv 4) rfl)))))))), ?_⟩
  refine ⟨_, rfl, n, rfl, hn1, hn2, _, rfl, iteF ?_⟩
  refine ⟨_, rfl, l, p, kvs, rfl, hl, hp, ht, fun H1 s1 => ⟨_, rfl, iteF ?_⟩⟩
  refine ⟨_, rfl, _, rfl, iteF (iteF ?_)⟩
  have x1 := s1 _ _ hx
  have l1 := s1 _ _ hl
  have nlx : l ≠ x := xk0 l1 x1 (by intro z; cases z)
  refine ⟨_, rfl, _, rfl, x, A.eb3, dx, _, rfl, x1, T.ea5, T.ec5, (by show 0 < 1000; decide), ?_⟩
  refine ⟨_, rfl, l, _, rfl, SqL.of (by rw [xa3 nlx]; exact l1), fun L hL => ?_⟩
  have nLx : x ≠ L := by rintro rfl; rw [xa1] at hL; cases hL
  have hL1 : H1 L = none := by rw [xa3 (Ne.symm nLx)] at hL; exact hL
  refine ⟨_, rfl, x, A.eb3, dx, _, rfl, by rw [xa3 nLx, xa1], T.ea5, T.ed5, (by show 1 < 1000; decide), ?_⟩
  refine ⟨_, rfl, _, rfl, x, A.eb3, dx, _, rfl, xa1, T.ea5, T.ee5, (by show 2 < 1000; decide), ?_⟩
  refine ⟨_, rfl, _, rfl, x, A.eb3, dx, _, rfl, xa1, T.ea5, T.ef5, (by show 3 < 1000; decide), ?_⟩
  have kp : ∀ b o, b ≠ x -> H b = some o -> (upd (upd (upd (upd (upd H1 x (.ins A.eb3 dx (putF "number" (.int n) []))) L (.lst [.ref p])) x (.ins A.eb3 dx (putF "parts" (.ref L) (putF "number" (.int n) [])))) x (.ins A.eb3 dx (putF "stops" (.bl false) (putF "parts" (.ref L) (putF "number" (.int n) []))))) x (.ins A.eb3 dx (putF "follow" .non (putF "stops" (.bl false) (putF "parts" (.ref L) (putF "number" (.int n) [])))))) b = some o := fun b o hb e => by
   rw [xa3 hb, xa3 hb, xa3 hb, xa3 (xa7 (s1 _ _ e) hL1), xa3 hb]
   exact s1 _ _ e
  refine k _ ⟨dx, L, p, xa1, ?_, ?_, ht⟩ kp
  ·rw [xa3 (Ne.symm nLx), xa3 (Ne.symm nLx), xa3 (Ne.symm nLx), xa1]
  ·obtain ⟨dp, d1, d2, e, e1, e2⟩ := hp
   have np : ∀ {q o}, H q = some o -> o ≠ .ins A.eb3 dx [] -> q ≠ x := fun a b z => by rw [z, hx] at a; exact b (Option.some.inj a).symm
   exact ⟨dp, d1, d2, kp _ _ (np e (fun z => by have := congrArg (fun o => match o with | HO.ins _ _ fs => fs.length | _ => 0) z; simp [partF] at this)) e, kp _ _ (np e1 (by intro z; cases z)) e1, kp _ _ (np e2 (by intro z; cases z)) e2⟩
def xo1 (A : Adr) (H : Hp) (cs : List Addr) (us : List Cu) : Prop := Paired (fun c (u : Cu) => CueU A H c u) cs us
theorem xo1.keep {A : Adr} {H H' : Hp} {cs : List Addr} {us : List Cu} (h : xo1 A H cs us) (s : Same H H') : xo1 A H' cs us := Paired.mapP h fun _ _ q => q.keep s
theorem xo6 {α β : Type} {F : α -> β -> Prop} : ∀ {as : List α} {bs : List β}, Paired F as bs -> ∀ {a}, a ∈ as -> ∃ b, b ∈ bs /\ F a b
 | _, _, .nil, _, h => by simp at h
 | _, _, .cons q t, a, h => by
  rcases List.mem_cons.mp h with e | h
  ·subst e; exact ⟨_, List.mem_cons_self, q⟩
  ·obtain ⟨b, hb, f⟩ := xo6 t h
   exact ⟨b, List.mem_cons_of_mem _ hb, f⟩
theorem xe6 {α β : Type} {F : α -> β -> Prop} : ∀ {as : List α} {bs : List β}, Paired F as bs -> ∀ {i : Nat} {a : α}, as[i]? = some a -> ∃ b, bs[i]? = some b /\ F a b
 | _, _, .nil, _, _, h => by simp at h
 | _, _, .cons q t, 0, a, h => by simp only [List.getElem?_cons_zero, Option.some.injEq] at h; subst h; exact ⟨_, rfl, q⟩
 | _, _, .cons q t, i + 1, a, h => by simp only [List.getElem?_cons_succ] at h ⊢; exact xe6 t h
def xh9 (us : List Cu) : Prop := us.Pairwise fun a b => a.n < b.n
def yx5 (A : Adr) : Sp := fun vs H Q _ => ∃ (l : Addr) (cs : List Addr) (us : List Cu), vs = [.ref l] /\ H l = some (.lst (cs.map V.ref)) /\ cs.length <= 900 /\ xo1 A H cs us /\ xh9 us /\ ∀ m H', H m = none -> H' m = some (.lst (cs.map V.ref)) -> Same H H' -> Q (.ref m) H'
theorem xp6 (T : Txt K mg A) : FnOk P w K mg base (CXE P w) 1 A.eg1 A.eh1 ["cues"] (yx5 A) := by
 refine T.ew1.okE xm3 (fun vs H Q E h => ?_) (fun cdv Ar outer s H vs Q E hr h => ?_)
 ·obtain ⟨l, cs, us, rfl, hl, hz, hc, hri, k⟩ := h
  rfl
 ·obtain ⟨l, cs, us, rfl, hl, hz, hc, hri, k⟩ := h
  refine ⟨_, (xa5 (xe5 (PW.pt (ym4 (xf1 (xe0 (xb2 (xg1 K) (by rfl) T.ek6 xb0 (xa0 (pv 0) (xa0 (xw1 (by rfl) T.ep6 xj8) xa2))))) (xv9 (xf1 (xe0 (xb2 (xm1 K rfl) (by rfl) T.eu6 xo8 (xa0 (xp5 ["cue"] [none] rfl (xf8 K (pv 0)) (fun _ _ _ => (xc3 (i := 0) xp1 rfl (Or.inl rfl))) (fun _ _ _ => (xb2 (xy8 K) (by rfl) T.ek6 xb0 (xa0 (pv 0) (xa0 (xk7 (v := V.ref _) (by rfl) T.eb5 rfl) xa2))))) xa2))))))) (xa6 (xo5 T.en5 (by rfl) T.ek5 (xa0 xe1 xa2))) xb7)
   (xa5 (xg7 PassesOwn.leaving rfl (yi2 (by rfl) T.ew6 (xa0 xb1 (xa0 (xb2 (xj7 K) (by rfl) T.et6 PySem.boot_len (xa0 (pv 0) xa2)) xa2))) (xc3 (i := 1) xm3.nd rfl (Or.inl rfl)) (xa6 (xe5 (xf9 xu0 (xd5 K (xj4 (xd8 K) (pv 0) (pv 1) (fun _ _ => rfl))) (xd5 K (xj4 (xd8 K) (pv 0) (xd9 yi6 (pv 1) xb1) (fun _ _ => rfl))) (xf2 _)) (xa6 (xo5 T.en5 (by rfl) T.ek5 (xa0 xe1 xa2))) xb7)))
   (xa6 (xc0 (xf4 (xt1 K) (by rfl) T.ep6 xj8 (xa0 (pv 0) xa2)))))), ?_⟩
  refine ⟨_, rfl, _, _, _, true, rfl, .lst hl, yc2, true, rfl, iteF ?_⟩
  refine ⟨_, rfl, l, rfl, ⟨_, SqL.of hl⟩, fun D hD => ?_⟩
  refine yf5 (fun _ => .bl true) (fun σ => σ.length = 1) (SqL.of hl) hD (by rw [List.length_map]; omega) rfl (fun v σ' G N hv ho sm q => ?_) fun G sm hDl => ?_
  ·obtain ⟨c, hcm, rfl⟩ := List.mem_map.mp hv
   obtain ⟨u, _, dx, L, ps, e, _⟩ := xo6 (hc.keep sm) hcm
   match σ', ho with
   | [_], _ => exact ⟨_, rfl, _, _, _, true, rfl, T.eg5 _ _ _ _ e, T.eh5, q _ _ (Same.refl _) rfl⟩
  refine ⟨D, cs.map (fun _ => true), rfl, SqL.of (by rw [hDl, List.map_map, List.map_map]; rfl), _, rfl, ?_⟩
  rw [show (cs.map fun _ => true).all id = true by simp]
  refine iteF ?_
  have lG := sm _ _ hl
  have ln : (cs.map V.ref).length = cs.length := List.length_map _
  refine ⟨_, rfl, l, _, rfl, .inl (SqL.of lG), 1, _, rfl, ⟨by decide, by decide, by rw [ln]; omega, by rw [ln]; omega⟩, ?_⟩
  refine xy0 (fun _ σ' G' => ∃ z : Option V, σ' = [some (.ref l), z] /\ G' = G) ⟨none, rfl, rfl⟩ (fun i σ' G' hi hq => ?_) fun σ' G' hq => ?_
  ·obtain ⟨z, rfl, rfl⟩ := hq
   rw [ln] at hi
   have i1 : i + 1 < cs.length := by omega
   have g1 : cs[i + 1]? = some cs[i + 1] := List.getElem?_eq_getElem i1
   have g0 : cs[i]? = some cs[i] := List.getElem?_eq_getElem (by omega)
   obtain ⟨u1, v1, dx1, L1, ps1, e1, _⟩ := xe6 (hc.keep sm) g1
   obtain ⟨u0, v0, dx0, L0, ps0, e0, _⟩ := xe6 (hc.keep sm) g0
   have lt : u0.n < u1.n := by
    have := List.pairwise_iff_getElem.mp hri i (i + 1) (List.getElem?_eq_some_iff.mp v0).1 (List.getElem?_eq_some_iff.mp v1).1 (by omega)
    rw [(List.getElem?_eq_some_iff.mp v0).2, (List.getElem?_eq_some_iff.mp v1).2] at this
    exact this
   have a1 : atI (cs.map V.ref) (1 + (i : Int)) = some (.ref cs[i + 1]) := by
    rw [show (1 + (i : Int)) = ((i + 1 : Nat) : Int) from by omega]
    exact xf0 (by rw [List.getElem?_map, g1]; rfl)
   have a0 : atI (cs.map V.ref) (1 + (i : Int) - 1) = some (.ref cs[i]) := by
    rw [show (1 + (i : Int) - 1) = ((i : Nat) : Int) from by omega]
    exact xf0 (by rw [List.getElem?_map, g0]; rfl)
   refine ⟨_, rfl, _, rfl, l, _, _, _, rfl, rfl, SqL.of lG, a1, cs[i + 1], A.eb3, dx1, _, _, rfl, e1, T.ea5, T.ec5, rfl, ?_⟩
   refine ⟨_, rfl, _, rfl, _, _, rfl, rfl, l, _, _, _, rfl, rfl, SqL.of lG, a0, cs[i], A.eb3, dx0, _, _, rfl, e0, T.ea5, T.ec5, rfl, ?_⟩
   refine ⟨_, _, rfl, rfl, _, rfl, ?_⟩
   rw [show decide (u1.n <= u0.n) = false from decide_eq_false (by omega)]
   exact iteF ⟨_, rfl, rfl⟩
  obtain ⟨z, rfl, rfl⟩ := hq
  refine ⟨_, rfl, l, _, rfl, SqL.of lG, fun m hm => ?_⟩
  have hm0 : H m = none := sm.free hm
  exact k m _ hm0 xa1 (sm.trans (Same.new hm))
def ys3 (A : Adr) : Sp := fun vs H Q _ => ∃ (l : Addr) (n : Int) (cs : List Addr) (us : List Cu), vs = [.ref l, .int n] /\ 0 <= n /\ H l = some (.lst (cs.map V.ref)) /\ cs.length <= 900 /\ xo1 A H cs us /\ xh9 us /\ ∀ m H', H m = none -> H' m = some (.lst (cs.map V.ref)) -> Same H H' -> Q (.ref m) H'
theorem yb6 (T : Txt K mg A) : FnOk P w K mg base (CXE P w) 2 A.ei1 A.ej1 ["cues", "number"] (ys3 A) := by
 have G_cue_list := xp6 (P := P) (w := w) (base := base) T
 have G_is_whole := xm5 (P := P) (w := w) (base := base) T
 refine T.ez1.okN ya8 (fun vs H Q E h => ?_) (fun cdv Ar outer s H vs Q E hr h => ?_)
 ·obtain ⟨l, n, cs, us, rfl, hn, hl, hz, hc, hri, k⟩ := h
  rfl
 ·obtain ⟨l, n, cs, us, rfl, hn, hl, hz, hc, hri, k⟩ := h
  refine ⟨_, (xa5 (xc2 (i := 2) ya8.nd rfl (Or.inl rfl) (xa8 G_cue_list (hr.mono (by decide)) (by rfl) T.ey1 T.ew1.kp T.ex1 .nil xb4 (xa0 (pv 0) xa2)))
   (xa5 (xe5 (PW.pt (ym4 (xf1 (xe0 (xa8 G_is_whole (hr.mono (by decide)) (by rfl) T.ec T.ea.kp T.eb .nil xb4 (xa0 (pv 1) xa2)))) (xv9 (xf9 op_lt (pv 1) xb1 (xf2 _))))) (xa6 xm4) xb7)
   (xa6 (xc0 (pv 2))))), ?_⟩
  refine ⟨_, rfl, l, cs, us, rfl, hl, hz, hc, hri, fun m H1 hm hml s1 => ?_⟩
  refine ⟨_, rfl, n, rfl, _, rfl, iteF ?_⟩
  refine ⟨_, rfl, _, _, rfl, rfl, _, rfl, ?_⟩
  rw [show decide (n < 0) = false from decide_eq_false (by omega)]
  refine iteF ?_
  exact ⟨_, rfl, k m H1 hm hml s1⟩
def CueAt0 (A : Adr) (cs : List Addr) (us : List Cu) (n : Int) (v : V) : Prop := (v = .non /\ ∀ u ∈ us, u.n ≠ n) \/ ∃ (i : Nat) (c : Addr) (u : Cu), v = .ref c /\ cs[i]? = some c /\ us[i]? = some u /\ u.n = n
def spCueAt0 (A : Adr) : Sp := fun vs H Q _ => ∃ (l : Addr) (n : Int) (cs : List Addr) (us : List Cu), vs = [.ref l, .int n] /\ 0 <= n /\ H l = some (.lst (cs.map V.ref)) /\ cs.length <= 900 /\ xo1 A H cs us /\ xh9 us /\ ∀ v H', CueAt0 A cs us n v -> Same H H' -> Q v H'
theorem zb1 (T : Txt K mg A) : FnOk P w K mg base (CXE P w) 3 A.eo1 A.ep1 ["cues", "number"] (spCueAt0 A) := by
 have G_checked := yb6 (P := P) (w := w) (base := base) T
 refine T.ei2.okN yh7 (fun vs H Q E h => ?_) (fun cdv Ar outer s H vs Q E hr h => ?_)
 ·obtain ⟨l, n, cs, us, rfl, hn, hl, hz, hc, hri, k⟩ := h
  rfl
 ·obtain ⟨l, n, cs, us, rfl, hn, hl, hz, hc, hri, k⟩ := h
  refine ⟨_, (xa5 (xg7 PassesOwn.never rfl (xf8 K (xa8 G_checked (hr.mono (by decide)) (by rfl) T.eb2 T.ez1.kp T.ea2 .nil xb4 (xa0 (pv 0) (xa0 (pv 1) xa2)))) (xc3 (i := 2) yh7.nd rfl (Or.inl rfl)) (xa6 (xe5 (xf9 yt8 (xd5 K (pv 2)) (pv 1) (xf2 _)) (xa6 (xc0 (pv 2))) xb7)))
   (xa6 (xc0 ya9))), ?_⟩
  refine ⟨_, rfl, _, rfl, l, n, cs, us, rfl, hn, hl, hz, hc, hri, fun m H1 hm hml s1 => ?_⟩
  have hcl : us.length = cs.length := (Paired.length hc).symm
  refine ⟨m, rfl, ⟨_, SqL.of hml⟩, xh7 (xs := cs.map V.ref) (fun i σ' G => (∃ z : Option V, σ' = [some (.ref l), some (.int n), z]) /\ G = H1 /\ ∀ u ∈ us.take i, u.n ≠ n) ⟨⟨none, rfl⟩, rfl, by simp⟩ (fun i σ' G _ hq => ?_) (fun i v σ' G hv hq => ?_) fun σ' G hq => ?_⟩
  ·obtain ⟨_, rfl, _⟩ := hq; exact SqL.of hml
  ·obtain ⟨⟨z, rfl⟩, rfl, no⟩ := hq
   rw [List.getElem?_map] at hv
   cases hci : cs[i]? with
   | none => rw [hci] at hv; cases hv
   | some c =>
    rw [hci] at hv
    obtain rfl : V.ref c = v := by simpa using hv
    obtain ⟨u, hu, dx, L, ps, e, _⟩ := xe6 (hc.keep s1) hci
    refine ⟨_, rfl, c, A.eb3, dx, _, _, rfl, e, T.ea5, T.ec5, rfl, _, rfl, rfl, _, rfl, ?_⟩
    by_cases hb : u.n = n
    ·rw [show decide (V.int u.n = V.int n) = true from decide_eq_true (by rw [hb])]
     exact iteT ⟨_, rfl, k _ _ (.inr ⟨i, c, u, rfl, hci, hu, hb⟩) s1⟩
    ·rw [show decide (V.int u.n = V.int n) = false from decide_eq_false (fun z => hb (by simpa using z))]
     refine iteF ⟨⟨_, rfl⟩, rfl, fun w hw => ?_⟩
     rw [List.take_add_one, hu] at hw
     rcases List.mem_append.mp hw with y | y
     ·exact no w y
     ·have : w = u := by simpa using y
      rw [this]; exact hb
  obtain ⟨⟨z, rfl⟩, rfl, no⟩ := hq
  refine k _ _ (.inl ⟨rfl, fun u hu => no u ?_⟩) s1
  rw [List.take_of_length_le (by rw [List.length_map]; omega)]
  exact hu
theorem yx7 {n : Nat} (h : n < 1000) : n < sizeLine := Nat.lt_of_lt_of_le h (by decide)
def putA (acc kvs : List (List Key × V)) : List (List Key × V) := kvs.foldl (fun a kv => putK a kv.1 kv.2) acc
def xh5 (us : List Cu) (j : Nat) : List (List Key × V) := (us.take j).foldl (fun a u => putA a u.kvs) []
theorem xs8 {us : List Cu} {j : Nat} {u : Cu} (h : us[j]? = some u) : xh5 us (j + 1) = putA (xh5 us j) u.kvs := by
 unfold xh5
 rw [List.take_add_one, h, Option.toList_some, List.foldl_append]
 rfl
theorem yd7 : ∀ (kvs acc : List (List Key × V)), (putA acc kvs).length <= acc.length + kvs.length
 | [], acc => Nat.le_refl _
 | kv :: r, acc => by
  have h1 := yd7 r (putK acc kv.1 kv.2)
  have h2 := xm7 acc kv.1 kv.2
  show (putA (putK acc kv.1 kv.2) r).length <= _
  rw [List.length_cons]; omega
theorem yz0 {acc kvs : List (List Key × V)} {i : Nat} {kv : List Key × V} (h : kvs[i]? = some kv) : putA acc (kvs.take (i + 1)) = putK (putA acc (kvs.take i)) kv.1 kv.2 := by
 unfold putA
 rw [List.take_add_one, h, Option.toList_some, List.foldl_append]
 rfl
def spPut1 : Sp := fun vs H Q _ => ∃ l d acc kvs, vs = [.ref l, .ref d] /\ H l = some (.dT acc) /\ H d = some (.dT kvs) /\ l ≠ d /\ xs3 kvs /\ acc.length <= 900 /\ ∀ H', H' l = some (.dT (putA acc kvs)) -> (∀ b o, b ≠ l -> H b = some o -> H' b = some o) -> Q .non H'
theorem yi7 (T : Txt K mg A) : FnOk P w K mg base (CXE P w) 1 A.ek1 A.el1 ["look", "told"] (spPut1) := by
 refine T.ec2.okN xv5 (fun vs H Q E h => ?_) (fun cdv Ar outer s H vs Q E hr h => ?_)
 ·obtain ⟨l, d, acc, kvs, rfl, hl, hd, nld, ht, hz, k⟩ := h
  rfl
 ·obtain ⟨l, d, acc, kvs, rfl, hl, hd, nld, ht, hz, k⟩ := h
  refine ⟨_, (xa6 (ym5 (xg7 PassesOwn.never rfl (yp7 (yp8 (pv 1))) (yd9 (n := 2) K rfl (xk3 (xc3 (i := 2) xv5.nd rfl (Or.inl rfl)) (xk3 (xc3 (i := 3) xv5.nd rfl (Or.inl rfl)) yd8))) (xa6 (xe5 (xf9 op_gt (pv 3) xb1 (xf2 _)) (xa6 (yz2 (hu1 hr) (pv 0) (pv 2) (pv 3) rfl)) (xa6 (xg8 pe_no))))))), ?_⟩
  refine ⟨d, kvs, hd, fun o xs es ep D kt => ?_⟩
  have hk := xx6 D
  have hv := xu9 D kt
  have hxl : xs.length = kvs.length := (Paired.length kt).symm
  refine ⟨_, rfl, d, o, es, ep, rfl, xa1, D.sys, D.ex, D.data, fun p hp => ?_⟩
  have pd : d ≠ p := by rintro rfl; rw [xa1] at hp; cases hp
  have hp0 : H p = none := by rw [xa3 (Ne.symm pd)] at hp; exact hp
  have pl : l ≠ p := xa7 hl hp0
  refine ⟨p, d, o, _, _, es, ep, rfl, xa1, by rw [xa3 pd, xa1], D.ex, D.data, hk, hv, ?_⟩
  refine yj9 (fun i σ' G => ∃ v1 v2 : Option V, σ' = [some (.ref l), some (.ref d), v1, v2] /\ G d = some (held d o) /\ G l = some (.dT (putA acc (kvs.take i))) /\ ∀ b ob, b ≠ l -> b ≠ d -> H b = some ob -> G b = some ob) ⟨_, _, rfl, by rw [xa3 pd, xa1], ?_, fun b ob hb hbd e => ?_⟩ (fun i σ' G _ hq => ?_) (fun i kk v q σ' G hki hvi hq hqn => ?_) fun σ' G hq => ?_
  ·rw [xa3 pl, xa3 nld]; exact hl
  ·rw [xa3 (xa7 e hp0), xa3 hbd]; exact e
  ·obtain ⟨_, _, _, h, _⟩ := hq; exact h
  ·obtain ⟨v1, v2, rfl, gd, gl, go⟩ := hq
   rw [List.getElem?_map] at hki hvi
   cases hxi : xs[i]? with
   | none => rw [hxi] at hki; cases hki
   | some x =>
    cases hji : kvs[i]? with
    | none => rw [hji] at hvi; cases hvi
    | some kv =>
     rw [hxi] at hki
     rw [hji] at hvi
     obtain rfl : V.ref x.2.1 = kk := by simpa using hki
     obtain ⟨x', hx', hrel⟩ := xe6 kt hji
     rw [hxi] at hx'
     cases hx'
     obtain ⟨lm, sd, n, rfl, _, _, _, n0, n1⟩ := ht.2 kv (List.mem_of_getElem? hji)
     obtain rfl : V.int n = v := by simpa using hvi
     have hxt : H x.2.1 = some (.tup ((xd1 lm sd).map kV)) := hrel.2.1
     have xl : x.2.1 ≠ l := xk0 hxt hl (by intro z; cases z)
     have xd : x.2.1 ≠ d := xk0 hxt hd (by intro z; cases z)
     have gx := go _ _ xl xd hxt
     have nlq : l ≠ q := xa7 gl hqn
     have ndq : d ≠ q := xa7 gd hqn
     have nxq : x.2.1 ≠ q := xa7 gx hqn
     have hpl := yd7 (kvs.take i) acc
     have h1 := ht.1
     have h2 : (kvs.take i).length <= kvs.length := by rw [List.length_take]; omega
     refine ⟨q, _, rfl, SqT.of xa1, rfl, ?_⟩
     refine ⟨_, _, rfl, _, _, rfl, rfl, ?_⟩
     refine ⟨_, rfl, _, _, rfl, rfl, _, rfl, ?_⟩
     rw [show decide ((0 : Int) < n) = true from decide_eq_true (by omega)]
     refine iteT ⟨_, rfl, _, rfl, _, rfl, l, _, rfl, DPut.t (k := xd1 lm sd) (by rw [xa3 nlq]; exact gl) (by rw [xa3 nxq]; exact gx) (yx7 (by omega)), ⟨_, _, rfl, ?_, ?_, fun b ob hb hbd e => ?_⟩⟩
     ·rw [xa3 (Ne.symm nld), xa3 ndq]; exact gd
     ·rw [xa1, yz0 hji]
     ·rw [xa3 hb, xa3 (xa7 (go b ob hb hbd e) hqn)]; exact go b ob hb hbd e
  ·obtain ⟨v1, v2, rfl, gd, gl, go⟩ := hq
   rw [List.length_map, hxl, List.take_length] at gl
   refine ⟨gd, fun b ys e => go b _ (xk0 e hl (by intro z; cases z)) (xk0 e hd (by intro z; cases z)) e, k _ (by rw [xa3 nld]; exact gl) fun b ob hb e => ?_⟩
   by_cases hbd : b = d
   ·subst hbd; rw [hd] at e; cases e; exact xa1
   ·rw [xa3 hbd]; exact go b ob hb hbd e
def yg0 (us : List Cu) (n : Int) (j : Nat) : Prop := j <= us.length /\ (∀ (i : Nat) (u : Cu), i < j -> us[i]? = some u -> u.n <= n) /\ ∀ u, us[j]? = some u -> n < u.n
theorem xx3 {us : List Cu} (h : ∀ u ∈ us, xs3 u.kvs) : ∀ j, (xh5 us j).length <= j
 | 0 => by unfold xh5; simp
 | j + 1 => by
  have ih := xx3 h j
  cases e : us[j]? with
  | none =>
   have : xh5 us (j + 1) = xh5 us j := by unfold xh5; rw [List.take_add_one, e]; simp
   rw [this]; omega
  | some u =>
   rw [xs8 e]
   have h1 := yd7 u.kvs (xh5 us j)
   have h2 := (h u (List.mem_of_getElem? e)).1
   omega
def spCarr (A : Adr) : Sp := fun vs H Q _ => ∃ (l : Addr) (n : Int) (cs : List Addr) (us : List Cu), vs = [.ref l, .int n] /\ 0 <= n /\ H l = some (.lst (cs.map V.ref)) /\ cs.length <= 100 /\ xo1 A H cs us /\ xh9 us /\ ∀ d j H', H d = none -> yg0 us n j -> H' d = some (.dT (xh5 us j)) -> Same H H' -> Q (.ref d) H'
theorem yc7 {A : Adr} {H : Hp} {cs : List Addr} {us : List Cu} (h : xo1 A H cs us) : ∀ u ∈ us, xs3 u.kvs := by
 unfold xo1 at h
 induction h with
 | nil => intro u hu; simp at hu
 | cons q t ih =>
  intro u hu
  rcases List.mem_cons.mp hu with e | hu
  ·subst e; obtain ⟨_, _, _, _, _, _, h⟩ := q; exact h
  ·exact ih u hu
theorem yu1 (T : Txt K mg A) : FnOk P w K mg base (CXE P w) 3 A.em1 A.en1 ["cues", "number"] (spCarr A) := by
 have G_checked := yb6 (P := P) (w := w) (base := base) T
 have G_put_in := yi7 (P := P) (w := w) (base := base) T
 refine T.ef2.okN xl1 (fun vs H Q E h => ?_) (fun cdv Ar outer s H vs Q E hr h => ?_)
 ·obtain ⟨l, n, cs, us, rfl, hn, hl, hz, hc, hri, k⟩ := h
  rfl
 ·obtain ⟨l, n, cs, us, rfl, hn, hl, hz, hc, hri, k⟩ := h
  refine ⟨_, (xa5 (xc2 (i := 2) xl1.nd rfl (Or.inl rfl) xh6)
   (xa5 (xg7 PassesOwn.never rfl (xf8 K (xa8 G_checked (hr.mono (by decide)) (by rfl) T.eb2 T.ez1.kp T.ea2 .nil xb4 (xa0 (pv 0) (xa0 (pv 1) xa2)))) (xc3 (i := 3) xl1.nd rfl (Or.inl rfl)) (xa5 (xe5 (xf9 op_gt (xd5 K (pv 3)) (pv 1) (xf2 _)) (xa6 ps_break) xb7)
   (xa5 (xe5 (xe0 (xd5 K (pv 3))) (xa6 (xc2 (i := 2) xl1.nd rfl (Or.inl rfl) xh6)) xb7)
   (xa6 (xg7 PassesOwn.never rfl (xf8 K (xd5 K (pv 3))) (xc3 (i := 4) xl1.nd rfl (Or.inl rfl)) (xa6 (xg8 (xa8 G_put_in (hr.mono (by decide)) (by rfl) T.ee2 T.ec2.kp T.ed2 .nil xb4 (xa0 (pv 2) (xa0 (xd5 K (pv 4)) xa2))))))))))
   (xa6 (xc0 (pv 2))))), ?_⟩
  have hcl : cs.length = us.length := Paired.length hc
  have htl := yc7 hc
  refine xb8 (fun σ' H' => ∃ d, σ' = [some (.ref l), some (.int n), some (.ref d), none, none] /\ H d = none /\ H' d = some (.dT []) /\ Same H H') (fun N hN => ?_) ?_
  ·exact fun p hp => hN _ _ ⟨p, rfl, hp, xa1, Same.new hp⟩
  rintro σ' H1 ⟨d, rfl, nd, hd, s1⟩
  refine xb8 (fun σ' H' => ∃ v1 v2 j, σ' = [some (.ref l), some (.int n), some (.ref d), v1, v2] /\ yg0 us n j /\ H' d = some (.dT (xh5 us j)) /\ Same H H') (fun N hN => ?_) ?_
  ·refine ⟨_, rfl, _, rfl, l, n, cs, us, rfl, hn, s1 _ _ hl, by omega, hc.keep s1, hri, fun m H2 nm hm s2 => ?_⟩
   have ndm : m ≠ d := (xa7 hd nm).symm
   refine ⟨m, rfl, ⟨_, SqL.of hm⟩, xh7 (xs := cs.map V.ref) (fun i σ' H' => ∃ v1 v2, σ' = [some (.ref l), some (.int n), some (.ref d), v1, v2] /\ H' d = some (.dT (xh5 us i)) /\ Same H H' /\ H' m = some (.lst (cs.map V.ref)) /\ ∀ (i' : Nat) (u : Cu), i' < i -> us[i']? = some u -> u.n <= n) ⟨none, none, rfl, s2 _ _ hd, s1.trans s2, hm, fun i' u h => absurd h (Nat.not_lt_zero _)⟩ ?_ ?_ ?_⟩
   ·rintro i σ' H' _ ⟨_, _, _, _, _, hm', _⟩
    exact SqL.of hm'
   ·rintro i v σ' H3 hv ⟨v1, v2, rfl, hd3, s3, hm3, hle⟩
    rw [List.getElem?_map] at hv
    cases hci : cs[i]? with
    | none => rw [hci] at hv; cases hv
    | some c =>
     rw [hci] at hv
     obtain rfl : V.ref c = v := by simpa using hv
     obtain ⟨u, hu, dx, L, p, e, eL, hp, htu⟩ := xe6 hc hci
     have hil : i < us.length := (List.getElem?_eq_some_iff.mp hu).1
     refine xb8 (fun σ' H' => σ' = [some (.ref l), some (.int n), some (.ref d), some (.ref c), v2] /\ H' = H3 /\ u.n <= n) (fun N2 hN2 => ?_) ?_
     ·refine ⟨_, rfl, c, A.eb3, dx, _, _, rfl, s3 _ _ e, T.ea5, T.ec5, rfl, _, rfl, _, _, rfl, rfl, _, rfl, ?_⟩
      refine ite2 (fun c1 => hN _ _ ⟨_, _, i, rfl, ⟨by omega, hle, fun u' hu' => ?_⟩, hd3, s3⟩) (fun c1 => hN2 _ _ ⟨rfl, rfl, ?_⟩)
      ·rw [hu] at hu'; cases hu'; exact of_decide_eq_true c1
      ·exact Int.not_lt.mp fun z => c1 (decide_eq_true z)
     rintro σ' H4 ⟨rfl, rfl, hun⟩
     refine xb8 (fun σ' H' => σ' = [some (.ref l), some (.int n), some (.ref d), some (.ref c), v2] /\ H' = H4) (fun N2 hN2 => ?_) ?_
     ·exact ⟨_, rfl, c, A.eb3, dx, _, _, rfl, s3 _ _ e, T.ea5, T.ee5, rfl, _, rfl, iteF (hN2 _ _ ⟨rfl, rfl⟩)⟩
     rintro σ' H5 ⟨rfl, rfl⟩
     refine ⟨_, rfl, c, A.eb3, dx, _, _, rfl, s3 _ _ e, T.ea5, T.ed5, rfl, L, rfl, ⟨_, SqL.of (s3 _ _ eL)⟩, ?_⟩
     refine xh7 (K := K) (a := L) (xs := [V.ref p]) (fun j σ' H' => ∃ v2, σ' = [some (.ref l), some (.int n), some (.ref d), some (.ref c), v2] /\ H' d = some (.dT (if j = 0 then xh5 us i else xh5 us (i + 1))) /\ Same H H' /\ H' m = some (.lst (cs.map V.ref))) ⟨_, rfl, hd3, s3, hm3⟩ ?_ ?_ ?_
     ·rintro j σ' H' _ ⟨_, _, _, sm, _⟩
      exact SqL.of (sm _ _ eL)
     ·rintro j v σ' H6 hv ⟨v3, rfl, hd6, s6, hm6⟩
      have hj : j = 0 := by
       have := (List.getElem?_eq_some_iff.mp hv).1
       simpa using this
      subst hj
      obtain rfl : V.ref p = v := by simpa using hv
      obtain ⟨dp, d1, d2, e1, e2, e3⟩ := hp
      refine ⟨_, rfl, _, rfl, p, A.ea3, dp, _, _, rfl, s6 _ _ e1, T.er4, T.et4, rfl, d, d1, xh5 us i, u.kvs, rfl, hd6, s6 _ _ e2, (xa7 e2 nd).symm, htu, by have := xx3 htl i; omega, fun H7 h7 ho7 => ⟨_, rfl, ?_, fun b o eb => ho7 b o (xa7 eb nd) (s6 _ _ eb), ho7 m _ ndm hm6⟩⟩
      rw [if_neg (Nat.succ_ne_zero 0), xs8 hu]; exact h7
     ·rintro σ' H6 ⟨v3, rfl, hd6, s6, hm6⟩
      refine ⟨_, _, rfl, hd6, s6, hm6, fun i' u' h1 h2 => ?_⟩
      by_cases c2 : i' < i
      ·exact hle i' u' c2 h2
      ·obtain rfl : i' = i := by omega
       rw [hu] at h2; cases h2; exact hun
   ·rintro σ' H3 ⟨v1, v2, rfl, hd3, s3, _, hle⟩
    rw [List.length_map, hcl] at hd3 hle
    exact hN _ _ ⟨_, _, us.length, rfl, ⟨Nat.le_refl _, hle, fun u hu => by rw [List.getElem?_eq_none (Nat.le_refl _)] at hu; cases hu⟩, hd3, s3⟩
  rintro σ' H2 ⟨v1, v2, j, rfl, hj, hd2, s2⟩
  exact ⟨_, rfl, k d j H2 nd hj hd2 s2⟩
theorem ok_shown (T : Txt K mg A) : FnOk P w K mg base (CXE P w) 4 A.eq1 A.er1 ["cues", "number"] (spCarr A) := by
 have G_carried := yu1 (P := P) (w := w) (base := base) T
 have G_cue_at := zb1 (P := P) (w := w) (base := base) T
 have G_put_in := yi7 (P := P) (w := w) (base := base) T
 refine T.el2.okN xu3 (fun vs H Q E h => ?_) (fun cdv Ar outer s H vs Q E hr h => ?_)
 ·obtain ⟨l, n, cs, us, rfl, hn, hl, hz, hc, hri, k⟩ := h
  rfl
 ·obtain ⟨l, n, cs, us, rfl, hn, hl, hz, hc, hri, k⟩ := h
  refine ⟨_, (xa5 (xc2 (i := 2) xu3.nd rfl (Or.inl rfl) (xa8 G_carried (hr.mono (by decide)) (by rfl) T.eh2 T.ef2.kp T.eg2 .nil xb4 (xa0 (pv 0) (xa0 (pv 1) xa2))))
   (xa5 (xc2 (i := 3) xu3.nd rfl (Or.inl rfl) (xa8 G_cue_at (hr.mono (by decide)) (by rfl) T.ek2 T.ei2.kp T.ej2 .nil xb4 (xa0 (pv 0) (xa0 (pv 1) xa2))))
   (xa5 (xe5 (pt_cmp (za2 (pv 3))) (xa6 (xg7 PassesOwn.never rfl (xf8 K (xd5 K (pv 3))) (xc3 (i := 4) xu3.nd rfl (Or.inl rfl)) (xa6 (xg8 (xa8 G_put_in (hr.mono (by decide)) (by rfl) T.ee2 T.ec2.kp T.ed2 .nil xb4 (xa0 (pv 2) (xa0 (xd5 K (pv 4)) xa2))))))) xb7)
   (xa6 (xc0 (pv 2)))))), ?_⟩
  have htl := yc7 hc
  refine xb8 (fun σ' H' => ∃ d j, σ' = [some (.ref l), some (.int n), some (.ref d), none, none] /\ H d = none /\ yg0 us n j /\ H' d = some (.dT (xh5 us j)) /\ Same H H') (fun N hN => ?_) ?_
  ·exact ⟨_, rfl, _, rfl, l, n, cs, us, rfl, hn, hl, hz, hc, hri, fun d j H' nd hj hd s' => hN _ _ ⟨d, j, rfl, nd, hj, hd, s'⟩⟩
  rintro σ' H1 ⟨d, j, rfl, nd, hj, hd, s1⟩
  refine xb8 (fun σ' H' => ∃ v, σ' = [some (.ref l), some (.int n), some (.ref d), some v, none] /\ CueAt0 A cs us n v /\ Same H1 H') (fun N hN => ?_) ?_
  ·exact ⟨_, rfl, _, rfl, l, n, cs, us, rfl, hn, s1 _ _ hl, by omega, hc.keep s1, hri, fun v H' hv s' => hN _ _ ⟨v, rfl, hv, s'⟩⟩
  rintro σ' H2 ⟨v, rfl, hv, s2⟩
  have s12 := s1.trans s2
  have hd2 := s2 _ _ hd
  refine xb8 (fun σ' H' => ∃ v1, σ' = [some (.ref l), some (.int n), some (.ref d), some v, v1] /\ Same H H' /\ H' d = some (.dT (xh5 us j))) (fun N hN => ?_) ?_
  ·refine ⟨_, rfl, _, rfl, ?_⟩
   rcases hv with ⟨rfl, _⟩ | ⟨i, c, u, rfl, h1, h2, h3⟩
   ·rw [decide_eq_true rfl]
    exact iteF (hN _ _ ⟨_, rfl, s12, hd2⟩)
   ·rw [decide_eq_false (show ¬ V.ref c = V.non from fun z => by cases z)]
    obtain ⟨u', hu', dx, L, p, e, eL, hp, htu⟩ := xe6 hc h1
    refine iteT ⟨_, rfl, c, A.eb3, dx, _, _, rfl, s12 _ _ e, T.ea5, T.ed5, rfl, L, rfl, ⟨_, SqL.of (s12 _ _ eL)⟩, ?_⟩
    refine xh7 (K := K) (a := L) (xs := [V.ref p]) (fun _ σ' H' => ∃ v1, σ' = [some (.ref l), some (.int n), some (.ref d), some (.ref c), v1] /\ Same H H' /\ H' d = some (.dT (xh5 us j))) ⟨_, rfl, s12, hd2⟩ ?_ ?_ ?_
    ·rintro i' σ' H' _ ⟨_, _, sm, _⟩
     exact SqL.of (sm _ _ eL)
    ·rintro i' v σ' H6 hv ⟨v3, rfl, s6, hd6⟩
     obtain rfl : v = V.ref p := by
      have := List.mem_of_getElem? hv
      simpa using this
     obtain ⟨dp, d1, d2, e1, e2, e3⟩ := hp
     have hjl := xx3 htl j
     have := hj.1
     have hcl : cs.length = us.length := Paired.length hc
     exact ⟨_, rfl, _, rfl, p, A.ea3, dp, _, _, rfl, s6 _ _ e1, T.er4, T.eu4, rfl, d, d2, xh5 us j, [], rfl, hd6, s6 _ _ e3, (xa7 e3 nd).symm, yx2, by omega, fun H7 h7 ho7 => ⟨_, rfl, fun b o eb => ho7 b o (xa7 eb nd) (s6 _ _ eb), h7⟩⟩
    ·rintro σ' H6 ⟨v3, rfl, s6, hd6⟩
     exact hN _ _ ⟨_, rfl, s6, hd6⟩
  rintro σ' H3 ⟨v1, rfl, s3, hd3⟩
  exact ⟨_, rfl, k d j H3 nd hj hd3 s3⟩
theorem taken_at {us : List Cu} (hri : xh9 us) {i j : Nat} {u : Cu} (hu : us[i]? = some u) (h : yg0 us u.n j) : j = i + 1 := by
 have hi := (List.getElem?_eq_some_iff.mp hu).1
 have ei := (List.getElem?_eq_some_iff.mp hu).2
 rcases Nat.lt_trichotomy j (i + 1) with c | c | c
 ·have hj : j < us.length := by omega
  have h1 := h.2.2 _ (List.getElem?_eq_getElem hj)
  by_cases e : j = i
  ·subst e; rw [ei] at h1; omega
  ·have := List.pairwise_iff_getElem.mp hri j i hj hi (by omega)
   rw [ei] at this; omega
 ·exact c
 ·have hj : i + 1 < us.length := by have := h.1; omega
  have h1 := h.2.1 (i + 1) _ c (List.getElem?_eq_getElem hj)
  have := List.pairwise_iff_getElem.mp hri i (i + 1) hi hj (by omega)
  rw [ei] at this; omega
def xt2 (H : Hp) (ds : List Addr) (us : List Cu) : Prop := ds.length = us.length /\ ∀ (i : Nat) (d : Addr), ds[i]? = some d -> H d = some (.dT (xh5 us (i + 1)))
theorem xt2.keep {H H' : Hp} {ds : List Addr} {us : List Cu} (h : xt2 H ds us) (s : Same H H') : xt2 H' ds us := ⟨h.1, fun i d e => s _ _ (h.2 i d e)⟩
theorem xn8 {H : Hp} {us : List Cu} : ∀ {ys : List V} {is : List Nat} {k : Nat}, Paired (fun v (i : Nat) => ∃ d, v = V.ref d /\ H d = some (.dT (xh5 us (i + 1)))) ys is -> is = List.range' k is.length -> ∃ ds : List Addr, ys = ds.map V.ref /\ ds.length = is.length /\ ∀ (i : Nat) (d : Addr), ds[i]? = some d -> H d = some (.dT (xh5 us (k + i + 1)))
 | _, _, k, .nil, _ => ⟨[], rfl, rfl, fun i d e => by simp at e⟩
 | _, b :: bs, k, .cons q t, e => by
  rw [List.length_cons, List.range'_succ] at e
  obtain ⟨e1, e2⟩ := List.cons.inj e
  obtain ⟨ds, h1, h2, h3⟩ := xn8 (k := k + 1) t e2
  obtain ⟨d, rfl, hd⟩ := q
  refine ⟨d :: ds, by rw [h1]; rfl, by rw [List.length_cons, h2, List.length_cons], fun i d' ed => ?_⟩
  cases i with
  | zero => simp only [List.getElem?_cons_zero, Option.some.injEq] at ed; subst ed; rw [<- e1]; exact hd
  | succ i => simp only [List.getElem?_cons_succ] at ed; have := h3 i d' ed; rw [show k + (i + 1) + 1 = k + 1 + i + 1 by omega]; exact this
def spLooks (A : Adr) : Sp := fun vs H Q _ => ∃ (l : Addr) (cs : List Addr) (us : List Cu), vs = [.ref l] /\ H l = some (.lst (cs.map V.ref)) /\ cs.length <= 100 /\ xo1 A H cs us /\ xh9 us /\ (∀ u ∈ us, 1 <= u.n) /\ ∀ L ds H', H L = none -> H' L = some (.lst (ds.map V.ref)) -> xt2 H' ds us -> Same H H' -> Q (.ref L) H'
theorem xw5 (T : Txt K mg A) : FnOk P w K mg base (CXE P w) 5 A.es1 A.et1 ["cues"] (spLooks A) := by
 have G_cue_list := xp6 (P := P) (w := w) (base := base) T
 have G_shown := ok_shown (P := P) (w := w) (base := base) T
 refine T.eo2.okN yl9 (fun vs H Q E h => ?_) (fun cdv Ar outer s H vs Q E hr h => ?_)
 ·obtain ⟨l, cs, us, rfl, hl, hz, hc, hri, hn1, k⟩ := h
  rfl
 ·obtain ⟨l, cs, us, rfl, hl, hz, hc, hri, hn1, k⟩ := h
  refine ⟨_, (xa6 (xc0 (xp5 ["cue", "cues"] [none, some 0] rfl (xf8 K (xa8 G_cue_list (hr.mono (by decide)) (by rfl) T.ey1 T.ew1.kp T.ex1 .nil xb4 (xa0 (pv 0) xa2))) (fun _ _ _ => (xc3 (i := 0) ya1 rfl (Or.inl rfl))) (fun _ _ _ => (xa8 G_shown (hr.mono (by decide)) (by rfl) T.en2 T.el2.kp T.em2 .nil xb4 (xa0 (pv 1) (xa0 (xd5 K (pv 0)) xa2))))))), ?_⟩
  have hcl : cs.length = us.length := Paired.length hc
  refine ⟨_, rfl, l, cs, us, rfl, hl, by omega, hc, hri, fun m H1 hm hml s1 => ?_⟩
  refine ⟨m, rfl, ⟨_, SqL.of hml⟩, fun D hD => ?_⟩
  refine comp_ob (us := List.range' 0 us.length) (fun i v H => ∃ d, v = V.ref d /\ H d = some (.dT (xh5 us (i + 1)))) (fun σ => ∃ z, σ = [z, some (.ref l)]) (fun H H' x v s h => let ⟨d, a, b⟩ := h; ⟨d, a, s _ _ b⟩) (SqL.of hml) hD (by rw [List.length_map]; omega) (by rw [List.length_range', List.length_map]; omega) ⟨none, rfl⟩ (fun i x k' σ' G N hx hk ho sm hDl q => ?_) fun ys G sm hy hp => ?_
  ·obtain ⟨z, rfl⟩ := ho
   obtain ⟨zs, hDz⟩ := hDl
   rw [List.getElem?_map] at hx
   cases hci : cs[i]? with
   | none => rw [hci] at hx; cases hx
   | some c =>
    rw [hci] at hx
    obtain rfl : V.ref c = x := by simpa using hx
    have s1G := s1.trans sm
    obtain ⟨u, hu, dx, L, p, e, _⟩ := xe6 (hc.keep s1G) hci
    have hil : i < us.length := (List.getElem?_eq_some_iff.mp hu).1
    obtain rfl : k' = i := by
     rw [List.getElem?_range' hil] at hk
     simpa using hk.symm
    have u1 := hn1 u (List.mem_of_getElem? hu)
    refine ⟨_, rfl, _, rfl, c, A.eb3, dx, _, _, rfl, e, T.ea5, T.ec5, rfl, l, u.n, cs, us, rfl, by omega, s1G _ _ hl, hz, hc.keep s1G, hri, fun d j H' nd hj hd s' => ?_⟩
    obtain rfl := taken_at hri hu hj
    refine q _ _ _ ⟨d, rfl, ?_⟩ s' ⟨_, rfl⟩
    rw [hide_ne (xa7 hDz nd).symm]; exact hd
  ·obtain ⟨ds, rfl, h2, h3⟩ := xn8 (k := 0) hp (by rw [List.length_range'])
   rw [List.length_range'] at h2
   refine k D ds G (s1.free hD) hy ⟨h2, fun i d e => ?_⟩ (s1.trans sm)
   have := h3 i d e
   rw [Nat.zero_add] at this
   exact this
inductive NoL (K : Frag) (A : Adr) (H : Hp) : V -> Prop
 | other (x : V) (t : String) (ty : TyOf K H x (.type t)) (h : kitOne K (.type t) (.type "list") = some false) : NoL K A H x
 | item (l : Addr) (cs : List Addr) (us : List Cu) (hl : H l = some (.lst (cs.map V.ref ++ [.non]))) (hz : cs.length <= 800) (hc : xo1 A H cs us) : NoL K A H (.ref l)
 | fall (l : Addr) (cs : List Addr) (us : List Cu) (hl : H l = some (.lst (cs.map V.ref))) (hz : cs.length <= 800) (hc : xo1 A H cs us) (hn : ¬ xh9 us) : NoL K A H (.ref l)
theorem tyStay {K : Frag} {H H' : Hp} {x : V} {t : Value} (h : TyOf K H x t) (s : Same H H') : TyOf K H' x t := by
 cases h with
 | non => exact .non
 | bl b => exact .bl b
 | int i => exact .int i
 | str z => exact .str z
 | flt z => exact .flt z
 | lst e => exact .lst (s _ _ e)
 | frz e => exact .frz (s _ _ e)
 | tup e => exact .tup (s _ _ e)
 | dK e => exact .dK (s _ _ e)
 | dT e => exact .dT (s _ _ e)
 | ins e a1 a2 a3 a4 a5 => exact .ins (s _ _ e) a1 a2 a3 a4 a5
theorem NoL.keep {K : Frag} {A : Adr} {H H' : Hp} {x : V} (h : NoL K A H x) (s : Same H H') : NoL K A H' x := by
 cases h with
 | other _ t ty h => exact .other x t (tyStay ty s) h
 | item l cs us hl hz hc => exact .item l cs us (s _ _ hl) hz (hc.keep s)
 | fall l cs us hl hz hc hn => exact .fall l cs us (s _ _ hl) hz (hc.keep s) hn
theorem rise_of {us : List Cu} (h : ∀ i, (hi : i + 1 < us.length) -> us[i].n < us[i + 1].n) : xh9 us := by
 unfold xh9
 rw [List.pairwise_iff_getElem]
 intro i j hi hj hij
 induction j with
 | zero => omega
 | succ j ih =>
  by_cases c : i = j
  ·subst c; exact h i hj
  ·exact Int.lt_trans (ih (by omega) (by omega)) (h j hj)
def isRef : V -> V
 | .ref _ => .bl true
 | _ => .bl false
def spNoL (K : Frag) (A : Adr) : Sp := fun vs H _ E => ∃ x, vs = [x] /\ NoL K A H x /\ ∀ H', Same H H' -> E (.ref A.ed3) none H'
theorem yj2 {P : Program} {w : World} {K : Frag} {mg : Str -> Option Value} {base : Heap} {A : Adr} (T : Txt K mg A) : FnOk P w K mg base (CXE P w) 1 A.eg1 A.eh1 ["cues"] (spNoL K A) := by
 refine T.ew1.okE xm3 (fun vs H Q E h => ?_) (fun cdv Ar outer s H vs Q E hr h => ?_)
 ·obtain ⟨x, rfl, hx, e⟩ := h
  rfl
 ·obtain ⟨x, rfl, hx, e⟩ := h
  refine ⟨_, (xa5 (xe5 (PW.pt (ym4 (xf1 (xe0 (xb2 (xg1 K) (by rfl) T.ek6 xb0 (xa0 (pv 0) (xa0 (xw1 (by rfl) T.ep6 xj8) xa2))))) (xv9 (xf1 (xe0 (xb2 (xm1 K rfl) (by rfl) T.eu6 xo8 (xa0 (xp5 ["cue"] [none] rfl (xf8 K (pv 0)) (fun _ _ _ => (xc3 (i := 0) xp1 rfl (Or.inl rfl))) (fun _ _ _ => (xb2 (xy8 K) (by rfl) T.ek6 xb0 (xa0 (pv 0) (xa0 (xk7 (v := V.ref _) (by rfl) T.eb5 rfl) xa2))))) xa2))))))) (xa6 (xo5 T.en5 (by rfl) T.ek5 (xa0 xe1 xa2))) xb7)
   (xa5 (xg7 PassesOwn.leaving rfl (yi2 (by rfl) T.ew6 (xa0 xb1 (xa0 (xb2 (xj7 K) (by rfl) T.et6 PySem.boot_len (xa0 (pv 0) xa2)) xa2))) (xc3 (i := 1) xm3.nd rfl (Or.inl rfl)) (xa6 (xe5 (xf9 xu0 (xd5 K (xj4 (xd8 K) (pv 0) (pv 1) (fun _ _ => rfl))) (xd5 K (xj4 (xd8 K) (pv 0) (xd9 yi6 (pv 1) xb1) (fun _ _ => rfl))) (xf2 _)) (xa6 (xo5 T.en5 (by rfl) T.ek5 (xa0 xe1 xa2))) xb7)))
   (xa6 (xc0 (xf4 (xt1 K) (by rfl) T.ep6 xj8 (xa0 (pv 0) xa2)))))), ?_⟩
  cases hx with
  | other _ t ty h => exact ⟨_, rfl, _, _, _, _, rfl, ty, h, _, rfl, iteT ⟨by decide, e _ (Same.refl _)⟩⟩
  | item l cs us hl hz hc =>
   refine ⟨_, rfl, _, _, _, true, rfl, .lst hl, yc2, true, rfl, iteF ?_⟩
   refine ⟨_, rfl, l, rfl, ⟨_, SqL.of hl⟩, fun D hD => ?_⟩
   refine yf5 isRef (fun σ => σ.length = 1) (SqL.of hl) hD (by rw [List.length_append, List.length_map]; simp; omega) rfl (fun v σ' G N hv ho sm q => ?_) fun G sm hDl => ?_
   ·rcases List.mem_append.mp hv with hv | hv
    ·obtain ⟨c, hcm, rfl⟩ := List.mem_map.mp hv
     obtain ⟨u, _, dx, L, ps, e, _⟩ := xo6 (hc.keep sm) hcm
     match σ', ho with
     | [_], _ => exact ⟨_, rfl, _, _, _, true, rfl, T.eg5 _ _ _ _ e, T.eh5, q _ _ (Same.refl _) rfl⟩
    ·obtain rfl : v = V.non := by simpa using hv
     match σ', ho with
     | [_], _ => exact ⟨_, rfl, _, _, _, false, rfl, .non, T.ei5, q _ _ (Same.refl _) rfl⟩
   refine ⟨D, cs.map (fun _ => true) ++ [false], rfl, SqL.of (by rw [hDl, List.map_append, List.map_append, List.map_map, List.map_map]; rfl), _, rfl, ?_⟩
   rw [show (cs.map (fun _ => true) ++ [false]).all id = false by simp]
   exact iteT ⟨by decide, e _ sm⟩
  | fall l cs us hl hz hc hn =>
   refine ⟨_, rfl, _, _, _, true, rfl, .lst hl, yc2, true, rfl, iteF ?_⟩
   refine ⟨_, rfl, l, rfl, ⟨_, SqL.of hl⟩, fun D hD => ?_⟩
   refine yf5 (fun _ => .bl true) (fun σ => σ.length = 1) (SqL.of hl) hD (by rw [List.length_map]; omega) rfl (fun v σ' G N hv ho sm q => ?_) fun G sm hDl => ?_
   ·obtain ⟨c, hcm, rfl⟩ := List.mem_map.mp hv
    obtain ⟨u, _, dx, L, ps, e, _⟩ := xo6 (hc.keep sm) hcm
    match σ', ho with
    | [_], _ => exact ⟨_, rfl, _, _, _, true, rfl, T.eg5 _ _ _ _ e, T.eh5, q _ _ (Same.refl _) rfl⟩
   refine ⟨D, cs.map (fun _ => true), rfl, SqL.of (by rw [hDl, List.map_map, List.map_map]; rfl), _, rfl, ?_⟩
   rw [show (cs.map fun _ => true).all id = true by simp]
   refine iteF ?_
   have lG := sm _ _ hl
   have ln : (cs.map V.ref).length = cs.length := List.length_map _
   have hcl : cs.length = us.length := Paired.length hc
   refine ⟨_, rfl, l, _, rfl, .inl (SqL.of lG), 1, _, rfl, ⟨by decide, by decide, by rw [ln]; omega, by rw [ln]; omega⟩, ?_⟩
   refine xy0 (fun i σ' G' => (∃ z : Option V, σ' = [some (.ref l), z] /\ G' = G) /\ ∀ j, (hj : j < i) -> (hj2 : j + 1 < us.length) -> us[j].n < us[j + 1].n) ⟨⟨none, rfl, rfl⟩, fun j hj => absurd hj (Nat.not_lt_zero _)⟩ (fun i σ' G' hi hq => ?_) fun σ' G' hq => ?_
   ·obtain ⟨⟨z, rfl, rfl⟩, so⟩ := hq
    rw [ln] at hi
    have i1 : i + 1 < cs.length := by omega
    have g1 : cs[i + 1]? = some cs[i + 1] := List.getElem?_eq_getElem i1
    have g0 : cs[i]? = some cs[i] := List.getElem?_eq_getElem (by omega)
    obtain ⟨u1, v1, dx1, L1, ps1, e1, _⟩ := xe6 (hc.keep sm) g1
    obtain ⟨u0, v0, dx0, L0, ps0, e0, _⟩ := xe6 (hc.keep sm) g0
    have a1 : atI (cs.map V.ref) (1 + (i : Int)) = some (.ref cs[i + 1]) := by
     rw [show (1 + (i : Int)) = ((i + 1 : Nat) : Int) from by omega]
     exact xf0 (by rw [List.getElem?_map, g1]; rfl)
    have a0 : atI (cs.map V.ref) (1 + (i : Int) - 1) = some (.ref cs[i]) := by
     rw [show (1 + (i : Int) - 1) = ((i : Nat) : Int) from by omega]
     exact xf0 (by rw [List.getElem?_map, g0]; rfl)
    refine ⟨_, rfl, _, rfl, l, _, _, _, rfl, rfl, SqL.of lG, a1, cs[i + 1], A.eb3, dx1, _, _, rfl, e1, T.ea5, T.ec5, rfl, ?_⟩
    refine ⟨_, rfl, _, rfl, _, _, rfl, rfl, l, _, _, _, rfl, rfl, SqL.of lG, a0, cs[i], A.eb3, dx0, _, _, rfl, e0, T.ea5, T.ec5, rfl, ?_⟩
    refine ⟨_, _, rfl, rfl, _, rfl, ite2 (fun _ => ⟨by decide, e _ sm⟩) (fun c => ⟨⟨_, rfl, rfl⟩, fun j hj hj2 => ?_⟩)⟩
    by_cases cj : j < i
    ·exact so j cj hj2
    ·obtain rfl : j = i := by omega
     have c : ¬ u1.n <= u0.n := fun z => c (decide_eq_true z)
     rw [(List.getElem?_eq_some_iff.mp v0).2, (List.getElem?_eq_some_iff.mp v1).2]
     omega
   obtain ⟨_, so⟩ := hq
   rw [ln] at so
   exact absurd (rise_of fun i hi => so i (by omega) hi) hn
def spRn (K : Frag) (A : Adr) : Sp := fun vs H Q E => ∃ x b, vs = [x] /\ Lm K H x b /\ ∀ H', Same H H' -> (b = true -> Q .non H') /\ (b = false -> E (.ref A.ee3) none H')
theorem xz7 (T : Txt K mg A) : FnOk P w K mg base (CXE P w) 2 A.eu1 A.ev1 ["thing"] (spRn K A) := by
 have G_is_lamp := yb4 (P := P) (w := w) (base := base) T
 refine T.er2.okE xz4 (fun vs H Q E h => ?_) (fun cdv Ar outer s H vs Q E hr h => ?_)
 ·obtain ⟨x, b, rfl, hx, k⟩ := h
  rfl
 ·obtain ⟨x, b, rfl, hx, k⟩ := h
  refine ⟨_, (xa6 (xe5 (xf1 (xe0 (xa8 G_is_lamp (hr.mono (by decide)) (by rfl) T.ei T.eg.kp T.eh .nil xb4 (xa0 (pv 0) xa2)))) (xa6 (xo5 T.ev5 (by rfl) T.el5 (xa0 xe1 xa2))) xb7)), ?_⟩
  refine ⟨_, rfl, _, _, rfl, hx, fun H' s => ⟨_, rfl, ?_⟩⟩
  cases b with
  | true => exact iteF ((k H' s).1 rfl)
  | false => exact iteT ⟨by decide, (k H' s).2 rfl⟩
inductive Ls (K : Frag) (H : Hp) : V -> Bool -> Prop
 | good (l : Addr) (xs : List V) (hl : H l = some (.lst xs)) (hg : ∀ x ∈ xs, Lm K H x true) : Ls K H (.ref l) true
 | item (l : Addr) (xs : List V) (j : Nat) (y : V) (hl : H l = some (.lst xs)) (hj : xs[j]? = some y) (hy : Lm K H y false) (hg : ∀ (i : Nat) (x : V), i < j -> xs[i]? = some x -> Lm K H x true) : Ls K H (.ref l) false
 | other (x : V) (t : String) (ty : TyOf K H x (.type t)) (h : kitOne K (.type t) (.type "list") = some false) : Ls K H x false
theorem Ls.keep {K : Frag} {H H' : Hp} {x : V} {b : Bool} (h : Ls K H x b) (s : Same H H') : Ls K H' x b := by
 cases h with
 | good l xs hl hg => exact .good l xs (s _ _ hl) fun x hx => (hg x hx).keep s
 | item l xs j y hl hj hy hg => exact .item l xs j y (s _ _ hl) hj (hy.keep s) fun i x hi hx => (hg i x hi hx).keep s
 | other _ t ty h => exact .other x t (yo7 ty s) h
def spRl (K : Frag) (A : Adr) : Sp := fun vs H Q E => ∃ x b, vs = [x] /\ Ls K H x b /\ ∀ H', Same H H' -> (b = true -> Q .non H') /\ (b = false -> E (.ref A.ee3) none H')
theorem xn7 (T : Txt K mg A) : FnOk P w K mg base (CXE P w) 3 A.ew1 A.ex1 ["thing"] (spRl K A) := by
 have G_refuse_name := xz7 (P := P) (w := w) (base := base) T
 refine T.eu2.okE xn5 (fun vs H Q E h => ?_) (fun cdv Ar outer s H vs Q E hr h => ?_)
 ·obtain ⟨x, b, rfl, hx, k⟩ := h
  rfl
 ·obtain ⟨x, b, rfl, hx, k⟩ := h
  refine ⟨_, (xa5 (xe5 (xf1 (xe0 (xb2 (xg1 K) (by rfl) T.ek6 xb0 (xa0 (pv 0) (xa0 (xw1 (by rfl) T.ep6 xj8) xa2))))) (xa6 (xo5 T.ev5 (by rfl) T.el5 (xa0 xe1 xa2))) xb7)
   (xa6 (xg7 PassesOwn.leaving rfl (xf8 K (pv 0)) (xc3 (i := 1) xn5.nd rfl (Or.inl rfl)) (xa6 (xg8 (xa8 G_refuse_name (hr.mono (by decide)) (by rfl) T.et2 T.er2.kp T.es2 .nil yi3 (xa0 (pv 1) xa2))))))), ?_⟩
  cases hx with
  | other _ t ty h =>
   refine xb8 (fun _ _ => False) (fun N hN => ?_) (fun _ _ z => z.elim)
   exact ⟨_, rfl, _, _, _, _, rfl, ty, h, _, rfl, iteT ⟨by decide, (k _ (Same.refl _)).2 rfl⟩⟩
  | good l xs hl hg =>
   refine xb8 (fun σ' H' => σ' = [some (.ref l), none] /\ H' = H) (fun N hN => ?_) ?_
   ·exact ⟨_, rfl, _, _, _, true, rfl, .lst hl, yc2, true, rfl, iteF (hN _ _ ⟨rfl, rfl⟩)⟩
   rintro σ' H1 ⟨rfl, rfl⟩
   refine ⟨_, rfl, l, rfl, ⟨_, SqL.of hl⟩, xh7 (xs := xs) (fun _ σ' G => ∃ z, σ' = [some (.ref l), z] /\ Same H1 G) ⟨_, rfl, Same.refl _⟩ ?_ ?_ ?_⟩
   ·rintro i σ' G _ ⟨_, _, sm⟩
    exact SqL.of (sm _ _ hl)
   ·rintro i v σ' G hv ⟨z, rfl, sm⟩
    exact ⟨_, rfl, v, true, rfl, (hg v (List.mem_of_getElem? hv)).keep sm, fun G2 s2 => ⟨fun _ => ⟨_, rfl, sm.trans s2⟩, fun z => by cases z⟩⟩
   ·rintro σ' G ⟨z, rfl, sm⟩
    exact (k _ sm).1 rfl
  | item l xs j y hl hj hy hg =>
   have hjl : j < xs.length := (List.getElem?_eq_some_iff.mp hj).1
   refine xb8 (fun σ' H' => σ' = [some (.ref l), none] /\ H' = H) (fun N hN => ?_) ?_
   ·exact ⟨_, rfl, _, _, _, true, rfl, .lst hl, yc2, true, rfl, iteF (hN _ _ ⟨rfl, rfl⟩)⟩
   rintro σ' H1 ⟨rfl, rfl⟩
   refine ⟨_, rfl, l, rfl, ⟨_, SqL.of hl⟩, xh7 (xs := xs) (fun i σ' G => ∃ z, σ' = [some (.ref l), z] /\ Same H1 G /\ i <= j) ⟨_, rfl, Same.refl _, Nat.zero_le _⟩ ?_ ?_ ?_⟩
   ·rintro i σ' G _ ⟨_, _, sm, _⟩
    exact SqL.of (sm _ _ hl)
   ·rintro i v σ' G hv ⟨z, rfl, sm, hij⟩
    by_cases c : i < j
    ·exact ⟨_, rfl, v, true, rfl, (hg i v c hv).keep sm, fun G2 s2 => ⟨fun _ => ⟨_, rfl, sm.trans s2, c⟩, fun z => by cases z⟩⟩
    ·obtain rfl : i = j := by omega
     rw [hj] at hv
     cases hv
     exact ⟨_, rfl, y, false, rfl, hy.keep sm, fun G2 s2 => ⟨(fun z => by cases z), fun _ => (k _ (sm.trans s2)).2 rfl⟩⟩
   ·rintro σ' G ⟨z, rfl, sm, hij⟩
    omega
abbrev xb9 : Str := Str.ofString "bright"
def spDark : Sp := fun vs H Q _ => ∃ (d : Addr) (lamp : Str) (kvs : List (List Key × V)), vs = [.ref d, .str lamp] /\ H d = some (.dT kvs) /\ ∀ H', Same H H' -> Q (.bl (!(valV kvs (xd1 lamp xb9)).isSome)) H'
theorem yb5 (T : Txt K mg A) : FnOk P w K mg base (CXE P w) 1 A.ea2 A.eb2 ["look", "lamp"] (spDark) := by
 refine T.ee3.okN yt2 (fun vs H Q E h => ?_) (fun cdv Ar outer s H vs Q E hr h => ?_)
 ·obtain ⟨d, lamp, kvs, rfl, hd, k⟩ := h
  rfl
 ·obtain ⟨d, lamp, kvs, rfl, hd, k⟩ := h
  refine ⟨_, (xa6 (xc0 (pe_cmp (za3 (hu1 hr) (xk6 (xa0 (pv 1) (xa0 xe1 xa2))) (pv 0))))), ?_⟩
  exact ⟨_, rfl, (by show 2 <= 1000; decide), fun t ht => ⟨_, rfl, d, _, rfl, DGet.t (k := xd1 lamp xb9) ((Same.new ht) _ _ hd) xa1, k _ (Same.new ht)⟩⟩
def xn2 (lamp : Str) (kv : List Key × V) : Bool := match kv.1 with | [Sum.inr l, Sum.inr sd] => movB lamp l sd | _ => false
def zf0 (kvs : List (List Key × V)) : Prop := ∀ kv ∈ kvs, ∃ l sd v, kv = (xd1 l sd, v)
theorem yy9 {κ : Type} [DecidableEq κ] (kvs : List (κ × V)) (k : κ) (v : V) : (putK kvs k v).isEmpty = false := by
 cases e : putK kvs k v with
 | nil => have := valV_put kvs k k v; rw [e] at this; simp [valV] at this
 | cons a b => rfl
def spStance : Sp := fun vs H Q _ => ∃ (d : Addr) (lamp : Str) (kvs : List (List Key × V)), vs = [.ref d, .str lamp] /\ H d = some (.dT kvs) /\ kvs.length <= 900 /\ zf0 kvs /\ ∀ D acc H', H D = none -> H' D = some (.dT acc) -> acc.isEmpty = !(kvs.any (xn2 lamp)) -> Same H H' -> Q (.ref D) H'
theorem xt6 (T : Txt K mg A) : FnOk P w K mg base (CXE P w) 3 A.ee2 A.ef2 ["look", "lamp"] (spStance) := by
 have G_is_moving := yi9 (P := P) (w := w) (base := base) T
 refine T.ek3.okN xk1 (fun vs H Q E h => ?_) (fun cdv Ar outer s H vs Q E hr h => ?_)
 ·obtain ⟨d, lamp, kvs, rfl, hd, hz, hs, k⟩ := h
  rfl
 ·obtain ⟨d, lamp, kvs, rfl, hd, hz, hs, k⟩ := h
  refine ⟨_, (xa5 (xc2 (i := 2) xk1.nd rfl (Or.inl rfl) xh6)
   (xa5 (ym5 (xg7 PassesOwn.never rfl (yp7 (yp8 (pv 0))) (yd9 (n := 2) K rfl (xk3 (xc3 (i := 3) xk1.nd rfl (Or.inl rfl)) (xk3 (xc3 (i := 4) xk1.nd rfl (Or.inl rfl)) yd8))) (xa6 (xe5 (xe0 (xa8 G_is_moving (hr.mono (by decide)) (by rfl) T.ej3 T.eh3.kp T.ei3 .nil xb4 (xa0 (pv 3) (xa0 (pv 1) xa2)))) (xa6 (yz2 (hu1 hr) (pv 2) (pv 3) (pv 4) rfl)) xb7))))
   (xa6 (xc0 (pv 2))))), ?_⟩
  refine xb8 (fun σ' H' => ∃ D, σ' = [some (.ref d), some (.str lamp), some (.ref D), none, none] /\ H D = none /\ H' D = some (.dT []) /\ Same H H') (fun N hN => ?_) ?_
  ·exact fun p hp => hN _ _ ⟨p, rfl, hp, xa1, Same.new hp⟩
  rintro σ' H1 ⟨D, rfl, nD, hD, s1⟩
  have hd1 := s1 _ _ hd
  have nDd : D ≠ d := (xa7 hd nD).symm
  refine xb8 (fun σ' H' => ∃ v3 v4 acc, σ' = [some (.ref d), some (.str lamp), some (.ref D), v3, v4] /\ H' D = some (.dT acc) /\ acc.isEmpty = !(kvs.any (xn2 lamp)) /\ Same H H') (fun N hN => ?_) ?_
  ·refine ⟨d, kvs, hd1, fun o xs es ep DD kt => ?_⟩
   have hk := xx6 DD
   have hv := xu9 DD kt
   have hxl : xs.length = kvs.length := (Paired.length kt).symm
   refine ⟨_, rfl, d, o, es, ep, rfl, xa1, DD.sys, DD.ex, DD.data, fun p hp => ?_⟩
   have pd : d ≠ p := by rintro rfl; rw [xa1] at hp; cases hp
   have hp0 : H1 p = none := by rw [xa3 (Ne.symm pd)] at hp; exact hp
   have pD : D ≠ p := xa7 hD hp0
   refine ⟨p, d, o, _, _, es, ep, rfl, xa1, by rw [xa3 pd, xa1], DD.ex, DD.data, hk, hv, ?_⟩
   refine yj9 (fun i σ' G => ∃ (v3 v4 : Option V) (acc : List (List Key × V)), σ' = [some (.ref d), some (.str lamp), some (.ref D), v3, v4] /\ G d = some (held d o) /\ G D = some (.dT acc) /\ acc.length <= i /\ acc.isEmpty = !((kvs.take i).any (xn2 lamp)) /\ ∀ b ob, b ≠ D -> b ≠ d -> H1 b = some ob -> G b = some ob) ⟨_, _, [], rfl, by rw [xa3 pd, xa1], ?_, Nat.le_refl _, rfl, fun b ob hb hbd e => ?_⟩ (fun i σ' G _ hq => ?_) (fun i kk v q σ' G hki hvi hq hqn => ?_) fun σ' G hq => ?_
   ·rw [xa3 pD, xa3 nDd]; exact hD
   ·rw [xa3 (xa7 e hp0), xa3 hbd]; exact e
   ·obtain ⟨_, _, _, _, h, _⟩ := hq; exact h
   ·obtain ⟨v3, v4, acc, rfl, gd, gD, hal, hae, go⟩ := hq
    rw [List.getElem?_map] at hki hvi
    cases hxi : xs[i]? with
    | none => rw [hxi] at hki; cases hki
    | some x =>
     cases hji : kvs[i]? with
     | none => rw [hji] at hvi; cases hvi
     | some kv =>
      rw [hxi] at hki
      rw [hji] at hvi
      obtain rfl : V.ref x.2.1 = kk := by simpa using hki
      obtain ⟨x', hx', hrel⟩ := xe6 kt hji
      rw [hxi] at hx'
      cases hx'
      have hil : i < kvs.length := (List.getElem?_eq_some_iff.mp hji).1
      obtain ⟨lm, sd, vv, rfl⟩ := hs kv (List.mem_of_getElem? hji)
      obtain rfl : vv = v := by simpa using hvi
      have hxt : H1 x.2.1 = some (.tup ((xd1 lm sd).map kV)) := hrel.2.1
      have xD : x.2.1 ≠ D := xk0 hxt hD (by intro z; cases z)
      have xd : x.2.1 ≠ d := xk0 hxt hd1 (by intro z; cases z)
      have gx := go _ _ xD xd hxt
      have nDq : D ≠ q := xa7 gD hqn
      have ndq : d ≠ q := xa7 gd hqn
      have nxq : x.2.1 ≠ q := xa7 gx hqn
      have tk : (kvs.take (i + 1)).any (xn2 lamp) = ((kvs.take i).any (xn2 lamp) || movB lamp lm sd) := by
       rw [List.take_add_one, hji, Option.toList_some, List.any_append]
       simp [xn2]
      have go' : ∀ b ob, b ≠ D -> b ≠ d -> H1 b = some ob -> (upd G q (.tup [V.ref x.2.1, vv])) b = some ob := fun b ob hb hbd e => by
       rw [xa3 (xa7 (go b ob hb hbd e) hqn)]; exact go b ob hb hbd e
      refine ⟨q, _, rfl, SqT.of xa1, rfl, ?_⟩
      refine ⟨_, _, rfl, _, _, rfl, rfl, ?_⟩
      refine ⟨_, rfl, _, rfl, x.2.1, lm, sd, lamp, rfl, by rw [xa3 nxq]; exact gx, _, rfl, ?_⟩
      cases hm : movB lamp lm sd with
      | false =>
       rw [hm, Bool.or_false] at tk
       refine iteF ⟨_, _, acc, rfl, by rw [xa3 ndq]; exact gd, by rw [xa3 nDq]; exact gD, by omega, by rw [tk]; exact hae, go'⟩
      | true =>
       rw [hm, Bool.or_true] at tk
       refine iteT ⟨_, rfl, _, rfl, _, rfl, D, _, rfl, DPut.t (k := xd1 lm sd) (by rw [xa3 nDq]; exact gD) (by rw [xa3 nxq]; exact gx) (yx7 (by omega)), ⟨_, _, _, rfl, ?_, xa1, ?_, ?_, fun b ob hb hbd e => ?_⟩⟩
       ·rw [xa3 (Ne.symm nDd), xa3 ndq]; exact gd
       ·have := xm7 acc (xd1 lm sd) vv; omega
       ·rw [tk, yy9]; rfl
       ·rw [xa3 hb]; exact go' b ob hb hbd e
   ·obtain ⟨v3, v4, acc, rfl, gd, gD, hal, hae, go⟩ := hq
    rw [List.length_map, hxl, List.take_length] at hae
    have sG : ∀ b ob, H b = some ob -> (upd G d (.dT kvs)) b = some ob := fun b ob e => by
     by_cases hbd : b = d
     ·subst hbd; rw [hd] at e; cases e; exact xa1
     ·rw [xa3 hbd]; exact go b ob (xa7 e nD) hbd (s1 _ _ e)
    refine ⟨gd, fun b ys e => go b _ (xk0 e hD (by intro z; cases z)) (xk0 e hd1 (by intro z; cases z)) e, hN _ _ ⟨_, _, acc, rfl, by rw [xa3 nDd]; exact gD, hae, sG⟩⟩
  rintro σ' H2 ⟨v3, v4, acc, rfl, hD2, hae, s2⟩
  exact ⟨_, rfl, k D acc H2 nD hD2 hae s2⟩
def spMB (A : Adr) : Sp := fun vs H Q _ => ∃ (ea : Addr) (wd lv nv : V), vs = [.ref ea, wd, lv, nv] /\ H ea = some (xp7 ea (.ref A.ef3) none) /\ ∀ dx H', H dx = none -> H' ea = some (xp7 ea (.ref A.ef3) (some dx)) -> H' dx = some (.xd [("number", nv), ("lamp", lv)]) -> (∀ b o, b ≠ ea -> H b = some o -> H' b = some o) -> Q .non H'
theorem xg4 (T : Txt K mg A) : FnOk P w K mg base (CXE P w) 2 A.ey1 A.ez1 ["self", "words", "lamp", "number"] (spMB A) := by
 refine T.ex2.okN xp4 (fun vs H Q E h => ?_) (fun cdv Ar outer s H vs Q E hr h => ?_)
 ·obtain ⟨ea, wd, lv, nv, rfl, hea, k⟩ := h
  rfl
 ·obtain ⟨ea, wd, lv, nv, rfl, hea, k⟩ := h
  refine ⟨_, (xa5 (xg8 (za0 K T.ea3 (by rfl) T.ej5 (xa0 (pv 0) (xa0 (pv 1) xa2))))
   (xa5 (ps_xfld1 K (pv 0) (pv 2))
   (xa6 (ps_xfld2 K (pv 0) (pv 3))))), ?_⟩
  refine ⟨_, rfl, _, rfl, ea, _, _, _, _, rfl, (by show 1 <= 1000; decide), hea, T.ez2, ?_⟩
  refine ⟨_, rfl, _, rfl, ea, _, _, _, rfl, hea, T.ez2, T.ec3, fun dx hdx => ?_⟩
  have ne : ea ≠ dx := xa7 hea hdx
  refine ⟨_, rfl, _, rfl, ea, _, _, _, dx, _, rfl, by rw [xa3 ne, xa1], xa1, T.ez2, T.ed3, (by show 1 <= 1000; decide), ?_⟩
  refine k dx _ hdx (by rw [xa3 ne, xa3 ne, xa1]) xa1 fun b o hb e => ?_
  have nb := xa7 e hdx
  rw [xa3 nb, xa3 nb, xa3 hb]; exact e
def spWo0 : Sp := fun vs H Q _ => ∃ (c : V) (L : Addr) (lamp : Str) (ds : List Addr), vs = [c, .ref L, .str lamp] /\ H L = some (.lst (ds.map V.ref)) /\ ds.length <= 100 /\ (∀ d ∈ ds, ∃ kvs, H d = some (.dT kvs) /\ valV kvs (xd1 lamp xb9) = none) /\ ∀ F H', H F = none -> H' F = some (.lst []) -> Same H H' -> Q (.ref F) H'
theorem ye4 {P : Program} {w : World} {K : Frag} {mg : Str -> Option Value} {base : Heap} {A : Adr} (T : Txt K mg A) : FnOk P w K mg base (CXE P w) 4 A.eg2 A.eh2 ["cues", "looks", "lamp"] (spWo0) := by
 have G_MovesBright_init := xg4 (P := P) (w := w) (base := base) T
 have G_is_dark := yb5 (P := P) (w := w) (base := base) T
 have G_stance_of := xt6 (P := P) (w := w) (base := base) T
 refine T.en3.okE xb6 (fun vs H Q E h => ?_) (fun cdv Ar outer s H vs Q E hr h => ?_)
 ·obtain ⟨c, L, lamp, ds, rfl, hL, hz, hd, k⟩ := h
  rfl
 ·obtain ⟨c, L, lamp, ds, rfl, hL, hz, hd, k⟩ := h
  refine ⟨_, (xa5 (xc2 (i := 3) xb6.nd rfl (Or.inl rfl) (xc1 xa2))
   (xa5 (xc2 (i := 4) xb6.nd rfl (Or.inl rfl) xh6)
   (xa5 (xc2 (i := 5) xb6.nd rfl (Or.inl rfl) xb1)
   (xa5 (xg7 PassesOwn.leaving rfl (yz6 K (by rfl) T.ex6 (xa0 (pv 1) xa2)) (yd9 (n := 2) K rfl (xk3 (xc3 (i := 6) xb6.nd rfl (Or.inl rfl)) (xk3 (xc3 (i := 7) xb6.nd rfl (Or.inl rfl)) yd8))) (xa5 (xe5 (xe0 (xa8 G_is_dark (hr.mono (by decide)) (by rfl) T.eg3 T.ee3.kp T.ef3 .nil xb4 (xa0 (pv 7) (xa0 (pv 2) xa2)))) (xa6 xw0) xb7)
   (xa5 (xe5 (xf9 (za5 hr.units) (xa8 G_stance_of (hr.mono (by decide)) (by rfl) T.em3 T.ek3.kp T.el3 .nil xb4 (xa0 (pv 7) (xa0 (pv 2) xa2))) (pv 4) (xf2 _)) (xa5 (xe5 (xf9 op_ge (pv 5) (pv 6) (xf2 _)) (xa6 (yi0 T.ez2 G_MovesBright_init (hr.mono (by decide)) (by rfl) T.em5 T.ey2 .nil (xa0 xe1 (xa0 (pv 2) (xa0 (xd5 K (xj4 (xd8 K) (pv 0) (pv 6) (fun _ _ => rfl))) xa2))))) xb7)
   (xa6 (xg8 (yb0 K PySem.F.plainAttrs_list PySem.F.slot_list_append PySem.F.type_list_append xx1 (pv 3) (xa0 (xk6 (xa0 (xd5 K (xj4 (xd8 K) (pv 0) (pv 5) (fun _ _ => rfl))) (xa0 (xd5 K (xj4 (xd8 K) (pv 0) (xd9 yi6 (pv 6) xb1) (fun _ _ => rfl))) (xa0 (pv 2) (xa0 (xd5 K (xj4 (xd8 K) (pv 0) (pv 6) (fun _ _ => rfl))) xa2))))) xa2))))) xb7)
   (xa5 (xc2 (i := 4) xb6.nd rfl (Or.inl rfl) (xa8 G_stance_of (hr.mono (by decide)) (by rfl) T.em3 T.ek3.kp T.el3 .nil xb4 (xa0 (pv 7) (xa0 (pv 2) xa2))))
   (xa6 (xc2 (i := 5) xb6.nd rfl (Or.inl rfl) (xd9 xq9 (pv 6) xb1)))))))
   (xa6 (xc0 (pv 3))))))), ?_⟩
  refine yd5 (fun σ' H' => ∃ F St, σ' = [some c, some (.ref L), some (.str lamp), some (.ref F), some (.ref St), some (.int 0), none, none] /\ H F = none /\ H' F = some (.lst []) /\ Same H H') (fun N hN => ?_) ?_
  ·refine ⟨by decide, fun F hF => fun St hSt => ?_⟩
   exact hN _ _ ⟨F, St, rfl, hF, (Same.new hSt) _ _ xa1, (Same.new hF).trans (Same.new hSt)⟩
  rintro σ' H1 ⟨F, St, rfl, nF, hF, s1⟩
  refine xb8 (fun σ' H' => ∃ v6 v7, σ' = [some c, some (.ref L), some (.str lamp), some (.ref F), some (.ref St), some (.int 0), v6, v7] /\ Same H1 H') (fun N hN => ?_) ?_
  ·refine ⟨_, rfl, L, _, rfl, SqL.of (s1 _ _ hL), ?_⟩
   refine yr0 (K := K) (xs := ds.map V.ref) (fun _ σ' G => ∃ v6 v7, σ' = [some c, some (.ref L), some (.str lamp), some (.ref F), some (.ref St), some (.int 0), v6, v7] /\ Same H1 G) ⟨_, _, rfl, Same.refl _⟩ ?_ ?_ ?_
   ·rintro i σ' G _ ⟨_, _, _, sm⟩
    exact SqL.of (sm _ _ (s1 _ _ hL))
   ·rintro i x q σ' G hx ⟨v6, v7, rfl, sm⟩ hqn
    rw [List.getElem?_map] at hx
    cases hdi : ds[i]? with
    | none => rw [hdi] at hx; cases hx
    | some d =>
     rw [hdi] at hx
     obtain rfl : V.ref d = x := by simpa using hx
     obtain ⟨kvs, hdk, hno⟩ := hd d (List.mem_of_getElem? hdi)
     have sq := Same.new (o := HO.tup [V.int i, V.ref d]) hqn
     refine ⟨q, _, rfl, SqT.of xa1, rfl, ?_⟩
     refine ⟨_, _, rfl, _, _, rfl, rfl, ?_⟩
     refine ⟨_, rfl, _, rfl, d, lamp, kvs, rfl, sq _ _ (sm _ _ (s1 _ _ hdk)), fun G2 s2 => ⟨_, rfl, ?_⟩⟩
     rw [hno]
     exact iteT ⟨_, _, rfl, sm.trans (sq.trans s2)⟩
   ·rintro σ' G ⟨v6, v7, rfl, sm⟩
    exact hN _ _ ⟨v6, v7, rfl, sm⟩
  rintro σ' H2 ⟨v6, v7, rfl, s2⟩
  exact ⟨_, rfl, k F H2 nF (s2 _ _ hF) (s1.trans s2)⟩
def spWoX (A : Adr) : Sp := fun vs H _ E => ∃ (l L : Addr) (lamp : Str) (c1 c2 d1 d2 dc Lc : Addr) (n2 : Int) (k1 k2 : List (List Key × V)), vs = [.ref l, .ref L, .str lamp] /\ H l = some (.lst [.ref c1, .ref c2]) /\ H c2 = some (.ins A.eb3 dc (cueF n2 Lc)) /\
 H L = some (.lst [.ref d1, .ref d2]) /\ H d1 = some (.dT k1) /\ H d2 = some (.dT k2) /\ k1.length <= 900 /\ k2.length <= 900 /\ zf0 k1 /\ zf0 k2 /\ (valV k1 (xd1 lamp xb9)).isSome = true /\ (valV k2 (xd1 lamp xb9)).isSome = true /\ k1.any (xn2 lamp) = false /\ k2.any (xn2 lamp) = true /\
 ∀ dx H', Same H H' -> H' dx = some (.xd [("number", .int n2), ("lamp", .str lamp)]) -> E (.ref A.ef3) (some dx) H'
theorem ye3 {P : Program} {w : World} {K : Frag} {mg : Str -> Option Value} {base : Heap} {A : Adr} (T : Txt K mg A) : FnOk P w K mg base (CXE P w) 4 A.eg2 A.eh2 ["cues", "looks", "lamp"] (spWoX A) := by
 have G_MovesBright_init := xg4 (P := P) (w := w) (base := base) T
 have G_is_dark := yb5 (P := P) (w := w) (base := base) T
 have G_stance_of := xt6 (P := P) (w := w) (base := base) T
 refine T.en3.okE xb6 (fun vs H Q E h => ?_) (fun cdv Ar outer s H vs Q E hr h => ?_)
 ·obtain ⟨l, L, lamp, c1, c2, d1, d2, dc, Lc, n2, k1, k2, rfl, hl, hc2, hL, hd1, hd2, z1, z2, y1, y2, b1, b2, m1, m2, e⟩ := h
  rfl
 ·obtain ⟨l, L, lamp, c1, c2, d1, d2, dc, Lc, n2, k1, k2, rfl, hl, hc2, hL, hd1, hd2, z1, z2, y1, y2, b1, b2, m1, m2, e⟩ := h
  refine ⟨_, (xa5 (xc2 (i := 3) xb6.nd rfl (Or.inl rfl) (xc1 xa2))
   (xa5 (xc2 (i := 4) xb6.nd rfl (Or.inl rfl) xh6)
   (xa5 (xc2 (i := 5) xb6.nd rfl (Or.inl rfl) xb1)
   (xa5 (xg7 PassesOwn.leaving rfl (yz6 K (by rfl) T.ex6 (xa0 (pv 1) xa2)) (yd9 (n := 2) K rfl (xk3 (xc3 (i := 6) xb6.nd rfl (Or.inl rfl)) (xk3 (xc3 (i := 7) xb6.nd rfl (Or.inl rfl)) yd8))) (xa5 (xe5 (xe0 (xa8 G_is_dark (hr.mono (by decide)) (by rfl) T.eg3 T.ee3.kp T.ef3 .nil xb4 (xa0 (pv 7) (xa0 (pv 2) xa2)))) (xa6 xw0) xb7)
   (xa5 (xe5 (xf9 (za5 hr.units) (xa8 G_stance_of (hr.mono (by decide)) (by rfl) T.em3 T.ek3.kp T.el3 .nil xb4 (xa0 (pv 7) (xa0 (pv 2) xa2))) (pv 4) (xf2 _)) (xa5 (xe5 (xf9 op_ge (pv 5) (pv 6) (xf2 _)) (xa6 (yi0 T.ez2 G_MovesBright_init (hr.mono (by decide)) (by rfl) T.em5 T.ey2 .nil (xa0 xe1 (xa0 (pv 2) (xa0 (xd5 K (xj4 (xd8 K) (pv 0) (pv 6) (fun _ _ => rfl))) xa2))))) xb7)
   (xa6 (xg8 (yb0 K PySem.F.plainAttrs_list PySem.F.slot_list_append PySem.F.type_list_append xx1 (pv 3) (xa0 (xk6 (xa0 (xd5 K (xj4 (xd8 K) (pv 0) (pv 5) (fun _ _ => rfl))) (xa0 (xd5 K (xj4 (xd8 K) (pv 0) (xd9 yi6 (pv 6) xb1) (fun _ _ => rfl))) (xa0 (pv 2) (xa0 (xd5 K (xj4 (xd8 K) (pv 0) (pv 6) (fun _ _ => rfl))) xa2))))) xa2))))) xb7)
   (xa5 (xc2 (i := 4) xb6.nd rfl (Or.inl rfl) (xa8 G_stance_of (hr.mono (by decide)) (by rfl) T.em3 T.ek3.kp T.el3 .nil xb4 (xa0 (pv 7) (xa0 (pv 2) xa2))))
   (xa6 (xc2 (i := 5) xb6.nd rfl (Or.inl rfl) (xd9 xq9 (pv 6) xb1)))))))
   (xa6 (xc0 (pv 3))))))), ?_⟩
  refine yd5 (fun σ' H' => ∃ F St, σ' = [some (.ref l), some (.ref L), some (.str lamp), some (.ref F), some (.ref St), some (.int 0), none, none] /\ H' St = some (.dT []) /\ Same H H') (fun N hN => ?_) ?_
  ·refine ⟨by decide, fun F hF => fun St hSt => ?_⟩
   exact hN _ _ ⟨F, St, rfl, xa1, (Same.new hF).trans (Same.new hSt)⟩
  rintro σ' H1 ⟨F, St, rfl, hSt, s1⟩
  refine xb8 (fun _ _ => False) (fun N hN => ?_) (fun _ _ z => z.elim)
  refine ⟨_, rfl, L, _, rfl, SqL.of (s1 _ _ hL), ?_⟩
  refine yr0 (K := K) (xs := [V.ref d1, V.ref d2]) (fun i σ' G => i <= 1 /\ ∃ St v6 v7, σ' = [some (.ref l), some (.ref L), some (.str lamp), some (.ref F), some (.ref St), some (.int (if i = 0 then 0 else 2)), v6, v7] /\ G St = some (.dT []) /\ Same H G) ⟨by decide, St, _, _, rfl, hSt, s1⟩ ?_ ?_ ?_
  ·rintro i σ' G _ ⟨_, _, _, _, _, _, sm⟩
   exact SqL.of (sm _ _ hL)
  ·rintro i x q σ' G hx ⟨hi1, St, v6, v7, rfl, gSt, sm⟩ hqn
   have sq := Same.new (o := HO.tup [V.int i, x]) hqn
   have smq := sm.trans sq
   have gq := sq _ _ gSt
   have eq : (upd G q (HO.tup [V.int i, x])) q = some (HO.tup [V.int i, x]) := xa1
   generalize upd G q (HO.tup [V.int i, x]) = G1 at smq gq eq ⊢
   refine ⟨q, _, rfl, SqT.of eq, rfl, ?_⟩
   refine ⟨_, _, rfl, _, _, rfl, rfl, ?_⟩
   match i, hi1 with
   | 0, _ =>
    obtain rfl : V.ref d1 = x := by simpa using hx
    refine xq5 (fun σ' H' => σ' = [some (.ref l), some (.ref L), some (.str lamp), some (.ref F), some (.ref St), some (.int 0), some (.int 0), some (.ref d1)] /\ Same G1 H') (fun N2 hN2 => ?_) ?_
    ·refine ⟨_, rfl, _, rfl, d1, lamp, k1, rfl, smq _ _ hd1, fun G2 s2 => ⟨_, rfl, ?_⟩⟩
     rw [b1]
     refine iteF ?_
     refine ⟨_, rfl, _, rfl, d1, lamp, k1, rfl, s2 _ _ (smq _ _ hd1), z1, y1, fun D acc G3 nD hD hae s3 => ?_⟩
     refine ⟨_, rfl, D, St, acc, rfl, rfl, hD, s3 _ _ (s2 _ _ gq), _, rfl, ?_⟩
     rw [hae, m1]
     exact iteF (hN2 _ _ ⟨rfl, s2.trans s3⟩)
    rintro σ' G4 ⟨rfl, s4⟩
    refine ⟨_, rfl, _, rfl, d1, lamp, k1, rfl, s4 _ _ (smq _ _ hd1), z1, y1, fun D acc G5 nD hD hae s5 => ?_⟩
    have hacc : acc = [] := by rw [m1] at hae; exact List.isEmpty_iff.mp hae
    subst hacc
    exact ⟨_, rfl, _, _, rfl, rfl, by decide, D, _, _, rfl, hD, smq.trans (s4.trans s5)⟩
   | 1, _ =>
    obtain rfl : V.ref d2 = x := by simpa using hx
    refine xq5 (fun _ _ => False) (fun N2 hN2 => ?_) (fun _ _ z => z.elim)
    refine ⟨_, rfl, _, rfl, d2, lamp, k2, rfl, smq _ _ hd2, fun G2 s2 => ⟨_, rfl, ?_⟩⟩
    rw [b2]
    refine iteF ?_
    refine ⟨_, rfl, _, rfl, d2, lamp, k2, rfl, s2 _ _ (smq _ _ hd2), z2, y2, fun D acc G3 nD hD hae s3 => ?_⟩
    refine ⟨_, rfl, D, St, acc, rfl, rfl, hD, s3 _ _ (s2 _ _ gq), _, rfl, ?_⟩
    rw [hae, m2]
    refine iteT ?_
    have s13 := smq.trans (s2.trans s3)
    refine xb8 (fun _ _ => False) (fun N3 hN3 => ?_) (fun _ _ z => z.elim)
    refine ⟨_, rfl, _, rfl, _, _, rfl, rfl, _, rfl, ?_⟩
    refine iteT ?_
    refine ⟨_, rfl, _, rfl, _, rfl, l, _, _, _, rfl, rfl, SqL.of (s13 _ _ hl), atI_1 _ _ _, c2, A.eb3, dc, _, _, rfl, s13 _ _ hc2, T.ea5, T.ec5, rfl, ?_⟩
    refine ⟨(by show 3 <= 1000; decide), fun ea hea => ⟨ea, _, _, _, rfl, xa1, fun dx H' ndx h1 h2 ho => ⟨rfl, some dx, h1, ?_⟩⟩⟩
    have ne : dx ≠ ea := fun z => by rw [z, xa1] at ndx; cases ndx
    refine e dx _ (fun b o eb => ?_) (by rw [xg3 ne]; exact h2)
    have nb := xa7 (s13 _ _ eb) hea
    rw [xg3 nb]
    exact ho b o nb (by rw [xa3 nb]; exact s13 _ _ eb)
  ·rintro σ' G ⟨h, _⟩
   exact absurd h (by show ¬ 2 <= 1; decide)
theorem fnOr {P : Program} {w : World} {K : Frag} {mg : Str -> Option Value} {base : Heap} {CX : CXT} {k : Nat} {f : Addr} {fd : FuncData} {ps : List Str} {sp sp' : Sp} (F : FnOk P w K mg base CX k f fd ps sp) (G : FnOk P w K mg base CX k f fd ps sp') :
  FnOk P w K mg base CX k f fd ps (fun vs H Q E => sp vs H Q E \/ sp' vs H Q E) :=
 ⟨fun vs H Q E h => h.elim (F.len vs H Q E) (G.len vs H Q E), fun Ar outer s H args us vs Q E hr he hb hv hs => hs.elim (F.run Ar outer s H args us vs Q E hr he hb hv) (G.run Ar outer s H args us vs Q E hr he hb hv)⟩
theorem xt7 {P : Program} {w : World} {K : Frag} {mg : Str -> Option Value} {base : Heap} {A : Adr} (T : Txt K mg A) : FnOk P w K mg base (CXE P w) 1 A.eg1 A.eh1 ["cues"] (fun vs H Q E => yx5 A vs H Q E \/ spNoL K A vs H Q E) := fnOr (xp6 T) (yj2 T)
theorem xr1 {P : Program} {w : World} {K : Frag} {mg : Str -> Option Value} {base : Heap} {A : Adr} (T : Txt K mg A) : FnOk P w K mg base (CXE P w) 4 A.eg2 A.eh2 ["cues", "looks", "lamp"] (fun vs H Q E => spWo0 vs H Q E \/ spWoX A vs H Q E) := fnOr (ye4 T) (ye3 T)
abbrev redT : Str := Str.ofString "red"
def twoU (lamp : Str) (n1 n2 v : Int) : List Cu := [⟨n1, [(xd1 lamp xb9, .int v)]⟩, ⟨n2, [(xd1 lamp redT, .int 5)]⟩]
theorem br_ne : xb9 ≠ redT := by decide +kernel
theorem look1 {lamp : Str} {n1 n2 v : Int} : xh5 (twoU lamp n1 n2 v) 1 = [(xd1 lamp xb9, .int v)] := by
 show putK ([] : List (List Key × V)) (xd1 lamp xb9) (.int v) = [(xd1 lamp xb9, .int v)]
 exact yd6 _ valV_nil
theorem look2 {lamp : Str} {n1 n2 v : Int} : xh5 (twoU lamp n1 n2 v) 2 = [(xd1 lamp xb9, .int v), (xd1 lamp redT, .int 5)] := by
 rw [xs8 (j := 1) (u := ⟨n2, [(xd1 lamp redT, .int 5)]⟩) rfl, look1]
 have h : valV [((xd1 lamp xb9 : List Key), V.int v)] (xd1 lamp redT) = none := by
  rw [xe3 (fun z => br_ne (by injection z with _ z; injection z with z _; injection z))]; rfl
 show putK _ _ _ = _
 rw [yd6 _ h]; rfl
theorem yj3 {lamp z : Str} {n1 n2 v : Int} (h : z ≠ lamp) : ∀ i, i < 2 -> valV (xh5 (twoU lamp n1 n2 v) (i + 1)) (xd1 z xb9) = none := by
 have n1' : ∀ sd : Str, ¬ (xd1 lamp sd : List Key) = xd1 z xb9 := fun sd e => h (by injection e with e _; injection e with e; exact e.symm)
 intro i hi
 match i, hi with
 | 0, _ => rw [look1, xe3 (n1' _)]; rfl
 | 1, _ => rw [look2, xe3 (n1' _), xe3 (n1' _)]; rfl
theorem yc4 {lamp : Str} {v : V} {r : List (List Key × V)} : (valV ((xd1 lamp xb9, v) :: r) (xd1 lamp xb9)).isSome = true := by rw [xg2 rfl]; rfl
theorem yb8 {lamp : Str} {v : V} : xn2 lamp (xd1 lamp xb9, v) = false := by simp [xn2, movB]
theorem mov_red {lamp : Str} {v : V} : xn2 lamp (xd1 lamp redT, v) = true := by
 have : ¬ V.str redT = V.str xb9 := fun e => br_ne (by injection e with e; exact e.symm)
 simp [xn2, movB, this]
inductive Rf (K : Frag) (A : Adr) (H : Hp) : V -> V -> List V -> Prop
 | nol (x y : V) (h : NoL K A H x) : Rf K A H x y [.bl true, .bl false, .bl false]
 | non (l : Addr) (y : V) (cs : List Addr) (us : List Cu) (hl : H l = some (.lst (cs.map V.ref))) (hz : cs.length <= 100) (hc : xo1 A H cs us) (hri : xh9 us) (h : Ls K H y false) : Rf K A H (.ref l) y [.bl false, .bl true, .bl false]
 | brt (l M c1 c2 : Addr) (lamp : Str) (n1 n2 v : Int) (zs : List Str) (hl : H l = some (.lst [.ref c1, .ref c2])) (hc : xo1 A H [c1, c2] (twoU lamp n1 n2 v)) (h1 : 1 <= n1) (h2 : n1 < n2) (hM : H M = some (.lst (zs.map V.str))) (hz : zs.length <= 50) (hzs : ∀ z ∈ zs, xk9 z = true /\ z.length <= 1000) (hin : lamp ∈ zs) :
   Rf K A H (.ref l) (.ref M) [.bl false, .bl false, .bl true, .str lamp, .int n2]
theorem Rf.keep {K : Frag} {A : Adr} {H H' : Hp} {x y : V} {out : List V} (h : Rf K A H x y out) (s : Same H H') : Rf K A H' x y out := by
 cases h with
 | nol _ _ h => exact .nol x y (h.keep s)
 | non l _ cs us hl hz hc hri h => exact .non l y cs us (s _ _ hl) hz (hc.keep s) hri (h.keep s)
 | brt l M c1 c2 lamp n1 n2 v zs hl hc h1 h2 hM hz hzs hin => exact .brt l M c1 c2 lamp n1 n2 v zs (s _ _ hl) (hc.keep s) h1 h2 (s _ _ hM) hz hzs hin
inductive Out (A : Adr) (H : Hp) : Addr -> Option Addr -> List V -> Prop
 | nol : Out A H A.ed3 none [.bl true, .bl false, .bl false]
 | non : Out A H A.ee3 none [.bl false, .bl true, .bl false]
 | brt (dx : Addr) (lamp : Str) (n : Int) (h : H dx = some (.xd [("number", .int n), ("lamp", .str lamp)])) : Out A H A.ef3 (some dx) [.bl false, .bl false, .bl true, .str lamp, .int n]
theorem yc1 {K : Frag} {H : Hp} {M : Addr} {zs : List Str} (hM : H M = some (.lst (zs.map V.str))) (hzs : ∀ z ∈ zs, xk9 z = true /\ z.length <= 1000) : Ls K H (.ref M) true := by
 refine .good M _ hM fun x hx => ?_
 obtain ⟨z, hz, rfl⟩ := List.mem_map.mp hx
 have := Lm.str (K := K) (H := H) z (hzs z hz).2
 rw [(hzs z hz).1] at this
 exact this
def spWg (A : Adr) : Sp := fun vs H Q _ => ∃ (l M : Addr) (cs : List Addr) (us : List Cu) (zs : List Str), vs = [.ref l, .ref M] /\ H l = some (.lst (cs.map V.ref)) /\ cs.length <= 100 /\ xo1 A H cs us /\ xh9 us /\ (∀ u ∈ us, 1 <= u.n) /\ H M = some (.lst (zs.map V.str)) /\ zs.length <= 50 /\ (∀ z ∈ zs, xk9 z = true /\ z.length <= 1000) /\
 (∀ z ∈ zs, ∀ i, i < us.length -> valV (xh5 us (i + 1)) (xd1 z xb9) = none) /\ ∀ F H', Same H H' -> H' F = some (.lst []) -> Q (.ref F) H'
theorem yu2 {P : Program} {w : World} {K : Frag} {mg : Str -> Option Value} {base : Heap} {A : Adr} (T : Txt K mg A) : FnOk P w K mg base (CXE P w) 6 A.ei2 A.ej2 ["cues", "lamps"] (spWg A) := by
 have G_cue_list := xt7 (P := P) (w := w) (base := base) T
 have G_looks_of := xw5 (P := P) (w := w) (base := base) T
 have G_refuse_lamps := xn7 (P := P) (w := w) (base := base) T
 have G_wishes_of := xr1 (P := P) (w := w) (base := base) T
 refine T.eq3.okE xg0 (fun vs H Q E h => ?_) (fun cdv Ar outer s H vs Q E hr h => ?_)
 ·obtain ⟨l, M, cs, us, zs, rfl, hl, hz, hc, hri, hn1, hM, hzl, hzs, hno, k⟩ := h
  rfl
 ·obtain ⟨l, M, cs, us, zs, rfl, hl, hz, hc, hri, hn1, hM, hzl, hzs, hno, k⟩ := h
  refine ⟨_, (xa5 (xc2 (i := 2) xg0.nd rfl (Or.inl rfl) (xa8 G_cue_list (hr.mono (by decide)) (by rfl) T.ey1 T.ew1.kp T.ex1 .nil yi3 (xa0 (pv 0) xa2)))
   (xa5 (xg8 (xa8 G_refuse_lamps (hr.mono (by decide)) (by rfl) T.ew2 T.eu2.kp T.ev2 .nil yi3 (xa0 (pv 1) xa2)))
   (xa5 (xc2 (i := 3) xg0.nd rfl (Or.inl rfl) (xa8 G_looks_of (hr.mono (by decide)) (by rfl) T.eq2 T.eo2.kp T.ep2 .nil xb4 (xa0 (pv 2) xa2)))
   (xa5 (xc2 (i := 4) xg0.nd rfl (Or.inl rfl) (xc1 xa2))
   (xa5 (xg7 PassesOwn.leaving rfl (xf8 K (xb2 (yc9 rfl) (by rfl) T.es6 xp9 (xa0 (xf4 (yk6 rfl) (by rfl) T.er6 xs0 (xa0 (pv 1) xa2)) xa2))) (xc3 (i := 5) xg0.nd rfl (Or.inl rfl)) (xa6 (xg8 (yb0 K PySem.F.plainAttrs_list PySem.F.slot_list_extend PySem.F.type_list_extend xx0 (pv 4) (xa0 (xa8 G_wishes_of (hr.mono (by decide)) (by rfl) T.ep3 T.en3.kp T.eo3 .nil yi3 (xa0 (pv 2) (xa0 (pv 3) (xa0 (pv 5) xa2)))) xa2)))))
   (xa6 (xc0 (pv 4)))))))), ?_⟩
  refine yp2 (fun σ' H' => ∃ m L F ds, σ' = [some (.ref l), some (.ref M), some (.ref m), some (.ref L), some (.ref F), none] /\ Same H H' /\ H' L = some (.lst (ds.map V.ref)) /\ xt2 H' ds us /\ H F = none /\ H' F = some (.lst [])) (fun N hN => ?_) ?_
  ·refine ⟨_, rfl, .inl ⟨l, cs, us, rfl, hl, by omega, hc, hri, fun m H1 nm hm s1 => ?_⟩⟩
   refine ⟨_, rfl, _, true, rfl, (yc1 hM hzs).keep s1, fun H2 s2 => ⟨fun _ => ?_, fun z => by cases z⟩⟩
   have s12 := s1.trans s2
   refine ⟨_, rfl, m, cs, us, rfl, s2 _ _ hm, hz, hc.keep s12, hri, hn1, fun L ds H3 nL hL hlk s3 => ?_⟩
   refine ⟨by decide, fun F hF => hN _ _ ⟨m, L, F, ds, rfl, (s12.trans s3).trans (Same.new hF), (Same.new hF) _ _ hL, hlk.keep (Same.new hF), (s12.trans s3).free hF, xa1⟩⟩
  rintro σ' H1 ⟨m, L, F, ds, rfl, s1, hL, hlk, nF, hF⟩
  refine xb8 (fun σ' H' => ∃ v, σ' = [some (.ref l), some (.ref M), some (.ref m), some (.ref L), some (.ref F), v] /\ Same H H' /\ H' F = some (.lst [])) (fun N hN => ?_) ?_
  ·refine ⟨_, rfl, M, zs, rfl, s1 _ _ hM, by omega, fun p ws hp hmem hlen => ⟨p, ws, rfl, xa1, by omega, fun Y ys hY pm => ?_⟩⟩
   have npY : p ≠ Y := by rintro rfl; rw [xa1] at hY; cases hY
   have hY0 : H1 Y = none := by rw [xa3 (Ne.symm npY)] at hY; exact hY
   have spY : ∀ o o', Same H1 (upd (upd H1 p o) Y o') := fun o o' => (Same.new hp).trans (Same.new (by rw [xa3 (Ne.symm npY)]; exact hY0))
   have nFY : F ≠ Y := xa7 hF hY0
   refine ⟨Y, rfl, ⟨_, SqL.of xa1⟩, xh7 (xs := ys.map V.str) (fun _ σ' G => ∃ v, σ' = [some (.ref l), some (.ref M), some (.ref m), some (.ref L), some (.ref F), v] /\ Same H1 G /\ G Y = some (.lst (ys.map V.str))) ⟨_, rfl, spY _ _, xa1⟩ ?_ ?_ ?_⟩
   ·rintro i σ' G _ ⟨_, _, _, gY⟩
    exact SqL.of gY
   ·rintro i v σ' G hv ⟨_, rfl, s1G, gY⟩
    obtain ⟨z, hz', rfl⟩ := List.mem_map.mp (List.mem_of_getElem? hv)
    have hzin : z ∈ zs := (hmem z).mp (pm.mem_iff.mp hz')
    have gF := s1G _ _ hF
    refine ⟨_, rfl, .inl ⟨rfl, _, SqL.of gF⟩, _, rfl, _, rfl, _, rfl, .inl ⟨_, L, z, ds, rfl, s1G _ _ hL, by rw [hlk.1, <- Paired.length hc]; omega, fun d hd => ?_, fun F2 G2 nF2 hF2 s2 => ?_⟩⟩
    ·obtain ⟨i', hi'⟩ := List.getElem?_of_mem hd
     have hil : i' < us.length := by rw [<- hlk.1]; exact (List.getElem?_eq_some_iff.mp hi').1
     exact ⟨_, s1G _ _ (hlk.2 i' d hi'), hno z hzin i' hil⟩
    ·refine ⟨F, F2, [], [], rfl, rfl, s2 _ _ gF, hF2, by decide, _, rfl, fun b o eb => ?_, ?_⟩
     ·by_cases hb : b = F
      ·have := s1G _ _ eb; rw [hb, gF] at this; rw [hb, xa1]; exact this
      ·rw [xa3 hb]; exact s2 _ _ (s1G _ _ eb)
     ·rw [xa3 (Ne.symm nFY)]; exact s2 _ _ gY
   ·rintro σ' G ⟨v, rfl, s1G, _⟩
    exact hN _ _ ⟨v, rfl, s1.trans s1G, s1G _ _ hF⟩
  rintro σ' H2 ⟨v, rfl, s2, hF2⟩
  exact ⟨_, rfl, k F H2 s2 hF2⟩
def spWx (K : Frag) (A : Adr) : Sp := fun vs H _ E => ∃ (x y : V) (out : List V), vs = [x, y] /\ Rf K A H x y out /\ ∀ C dxo H', Same H H' -> Out A H' C dxo out -> E (.ref C) dxo H'
theorem yb7 {P : Program} {w : World} {K : Frag} {mg : Str -> Option Value} {base : Heap} {A : Adr} (T : Txt K mg A) : FnOk P w K mg base (CXE P w) 6 A.ei2 A.ej2 ["cues", "lamps"] (spWx K A) := by
 have G_cue_list := xt7 (P := P) (w := w) (base := base) T
 have G_looks_of := xw5 (P := P) (w := w) (base := base) T
 have G_refuse_lamps := xn7 (P := P) (w := w) (base := base) T
 have G_wishes_of := xr1 (P := P) (w := w) (base := base) T
 refine T.eq3.okE xg0 (fun vs H Q E h => ?_) (fun cdv Ar outer s H vs Q E hr h => ?_)
 ·obtain ⟨x, y, out, rfl, hr0, e⟩ := h
  rfl
 ·obtain ⟨x, y, out, rfl, hr0, e⟩ := h
  refine ⟨_, (xa5 (xc2 (i := 2) xg0.nd rfl (Or.inl rfl) (xa8 G_cue_list (hr.mono (by decide)) (by rfl) T.ey1 T.ew1.kp T.ex1 .nil yi3 (xa0 (pv 0) xa2)))
   (xa5 (xg8 (xa8 G_refuse_lamps (hr.mono (by decide)) (by rfl) T.ew2 T.eu2.kp T.ev2 .nil yi3 (xa0 (pv 1) xa2)))
   (xa5 (xc2 (i := 3) xg0.nd rfl (Or.inl rfl) (xa8 G_looks_of (hr.mono (by decide)) (by rfl) T.eq2 T.eo2.kp T.ep2 .nil xb4 (xa0 (pv 2) xa2)))
   (xa5 (xc2 (i := 4) xg0.nd rfl (Or.inl rfl) (xc1 xa2))
   (xa5 (xg7 PassesOwn.leaving rfl (xf8 K (xb2 (yc9 rfl) (by rfl) T.es6 xp9 (xa0 (xf4 (yk6 rfl) (by rfl) T.er6 xs0 (xa0 (pv 1) xa2)) xa2))) (xc3 (i := 5) xg0.nd rfl (Or.inl rfl)) (xa6 (xg8 (yb0 K PySem.F.plainAttrs_list PySem.F.slot_list_extend PySem.F.type_list_extend xx0 (pv 4) (xa0 (xa8 G_wishes_of (hr.mono (by decide)) (by rfl) T.ep3 T.en3.kp T.eo3 .nil yi3 (xa0 (pv 2) (xa0 (pv 3) (xa0 (pv 5) xa2)))) xa2)))))
   (xa6 (xc0 (pv 4)))))))), ?_⟩
  cases hr0 with
  | nol _ _ h =>
   refine xb8 (fun _ _ => False) (fun N hN => ?_) (fun _ _ z => z.elim)
   exact ⟨_, rfl, .inr ⟨x, rfl, h, fun H' s => e _ _ _ s .nol⟩⟩
  | non l _ cs us hl hz hc hri h =>
   refine xq5 (fun _ _ => False) (fun N hN => ?_) (fun _ _ z => z.elim)
   refine ⟨_, rfl, .inl ⟨l, cs, us, rfl, hl, by omega, hc, hri, fun m H1 nm hm s1 => ?_⟩⟩
   exact ⟨_, rfl, _, false, rfl, h.keep s1, fun H2 s2 => ⟨(fun z => by cases z), fun _ => e _ _ _ (s1.trans s2) .non⟩⟩
  | brt l M c1 c2 lamp n1 n2 v zs hl hc h1 h2 hM hzl hzs hin =>
   have hri : xh9 (twoU lamp n1 n2 v) := by simp [xh9, twoU]; exact h2
   have hn1 : ∀ u ∈ twoU lamp n1 n2 v, 1 <= u.n := fun u hu => by
    simp only [twoU, List.mem_cons, List.not_mem_nil, or_false] at hu
    rcases hu with rfl | rfl
    ·exact h1
    ·show 1 <= n2; omega
   refine yp2 (fun σ' H' => ∃ m L F d1 d2, σ' = [some (.ref l), some (.ref M), some (.ref m), some (.ref L), some (.ref F), none] /\ Same H H' /\ H' m = some (.lst [.ref c1, .ref c2]) /\ H' L = some (.lst [.ref d1, .ref d2]) /\ xt2 H' [d1, d2] (twoU lamp n1 n2 v) /\ H F = none /\ H' F = some (.lst [])) (fun N hN => ?_) ?_
   ·refine ⟨_, rfl, .inl ⟨l, [c1, c2], _, rfl, hl, (by show 2 <= 900; decide), hc, hri, fun m H1 nm hm s1 => ?_⟩⟩
    refine ⟨_, rfl, _, true, rfl, (yc1 hM hzs).keep s1, fun H2 s2 => ⟨fun _ => ?_, fun z => by cases z⟩⟩
    have s12 := s1.trans s2
    refine ⟨_, rfl, m, [c1, c2], _, rfl, s2 _ _ hm, (by show 2 <= 100; decide), hc.keep s12, hri, hn1, fun L ds H3 nL hL hlk s3 => ?_⟩
    obtain ⟨d1, d2, rfl⟩ : ∃ d1 d2, ds = [d1, d2] := by
     have := hlk.1
     match ds, this with
     | [a, b], _ => exact ⟨a, b, rfl⟩
    refine ⟨by decide, fun F hF => hN _ _ ⟨m, L, F, d1, d2, rfl, (s12.trans s3).trans (Same.new hF), (Same.new hF) _ _ (s3 _ _ (s2 _ _ hm)), (Same.new hF) _ _ hL, hlk.keep (Same.new hF), (s12.trans s3).free hF, xa1⟩⟩
   rintro σ' H1 ⟨m, L, F, d1, d2, rfl, s1, hm, hL, hlk, nF, hF⟩
   have hd1 : H1 d1 = some (.dT [(xd1 lamp xb9, .int v)]) := by have := hlk.2 0 d1 rfl; rwa [look1] at this
   have hd2 : H1 d2 = some (.dT [(xd1 lamp xb9, .int v), (xd1 lamp redT, .int 5)]) := by have := hlk.2 1 d2 rfl; rwa [look2] at this
   obtain ⟨u2, hu2, dc, Lc, pc, ec, _⟩ := xe6 hc (show ([c1, c2] : List Addr)[1]? = some c2 from rfl)
   obtain rfl : u2 = ⟨n2, [(xd1 lamp redT, .int 5)]⟩ := by simpa [twoU] using hu2.symm
   refine xb8 (fun _ _ => False) (fun N hN => ?_) (fun _ _ z => z.elim)
   refine ⟨_, rfl, M, zs, rfl, s1 _ _ hM, by omega, fun p ws hp hmem hlen => ⟨p, ws, rfl, xa1, by omega, fun Y ys hY pm => ?_⟩⟩
   have npY : p ≠ Y := by rintro rfl; rw [xa1] at hY; cases hY
   have hY0 : H1 Y = none := by rw [xa3 (Ne.symm npY)] at hY; exact hY
   have spY : ∀ o o', Same H1 (upd (upd H1 p o) Y o') := fun o o' => (Same.new hp).trans (Same.new (by rw [xa3 (Ne.symm npY)]; exact hY0))
   have nFY : F ≠ Y := xa7 hF hY0
   have hlin : lamp ∈ ys := pm.mem_iff.mpr ((hmem lamp).mpr hin)
   refine ⟨Y, rfl, ⟨_, SqL.of xa1⟩, xh7 (xs := ys.map V.str) (fun i σ' G => ∃ v, σ' = [some (.ref l), some (.ref M), some (.ref m), some (.ref L), some (.ref F), v] /\ Same H1 G /\ G Y = some (.lst (ys.map V.str)) /\ lamp ∉ ys.take i) ⟨_, rfl, spY _ _, xa1, by simp⟩ ?_ ?_ ?_⟩
   ·rintro i σ' G _ ⟨_, _, _, gY, _⟩
    exact SqL.of gY
   ·rintro i v' σ' G hv ⟨_, rfl, s1G, gY, hnt⟩
    rw [List.getElem?_map] at hv
    cases hyi : ys[i]? with
    | none => rw [hyi] at hv; cases hv
    | some z =>
     rw [hyi] at hv
     obtain rfl : V.str z = v' := by simpa using hv
     have gF := s1G _ _ hF
     by_cases cz : z = lamp
     ·subst cz
      refine ⟨_, rfl, .inl ⟨rfl, _, SqL.of gF⟩, _, rfl, _, rfl, _, rfl, .inr ⟨m, L, z, c1, c2, d1, d2, dc, Lc, n2, _, _, rfl, s1G _ _ hm, s1G _ _ (s1 _ _ ec), s1G _ _ hL, s1G _ _ hd1, s1G _ _ hd2, (by show 1 <= 900; decide), (by show 2 <= 900; decide), ?_, ?_, yc4, yc4, ?_, ?_, fun dx H' s' hx => e _ _ _ ((s1.trans s1G).trans s') (.brt dx z n2 hx)⟩⟩
      ·intro kv hk; obtain rfl := List.mem_singleton.mp hk; exact ⟨_, _, _, rfl⟩
      ·intro kv hk
       rcases List.mem_cons.mp hk with rfl | hk
       ·exact ⟨_, _, _, rfl⟩
       ·obtain rfl := List.mem_singleton.mp hk; exact ⟨_, _, _, rfl⟩
      ·simp only [List.any_cons, List.any_nil, yb8, Bool.or_false]
      ·simp only [List.any_cons, List.any_nil, yb8, mov_red, Bool.or_false, Bool.false_or]
     ·refine ⟨_, rfl, .inl ⟨rfl, _, SqL.of gF⟩, _, rfl, _, rfl, _, rfl, .inl ⟨_, L, z, [d1, d2], rfl, s1G _ _ hL, (by show 2 <= 100; decide), fun d hd => ?_, fun F2 G2 nF2 hF2 s2 => ?_⟩⟩
      ·obtain ⟨i', hi'⟩ := List.getElem?_of_mem hd
       have hil : i' < 2 := (List.getElem?_eq_some_iff.mp hi').1
       exact ⟨_, s1G _ _ (hlk.2 i' d hi'), yj3 cz i' hil⟩
      ·refine ⟨F, F2, [], [], rfl, rfl, s2 _ _ gF, hF2, by decide, _, rfl, fun b o eb => ?_, ?_, ?_⟩
       ·by_cases hb : b = F
        ·have := s1G _ _ eb; rw [hb, gF] at this; rw [hb, xa1]; exact this
        ·rw [xa3 hb]; exact s2 _ _ (s1G _ _ eb)
       ·rw [xa3 (Ne.symm nFY)]; exact s2 _ _ gY
       ·rw [List.take_add_one, hyi, Option.toList_some]
        intro hmm
        rcases List.mem_append.mp hmm with q | q
        ·exact hnt q
        ·exact cz (List.mem_singleton.mp q).symm
   ·rintro σ' G ⟨_, rfl, _, _, hnt⟩
    rw [List.length_map, List.take_length] at hnt
    exact absurd hlin hnt
theorem ya0 {P : Program} {w : World} {K : Frag} {mg : Str -> Option Value} {base : Heap} {A : Adr} (T : Txt K mg A) : FnOk P w K mg base (CXE P w) 7 A.ek2 A.el2 ["cues", "lamps"] (spWx K A) := by
 have G_wishes := yb7 (P := P) (w := w) (base := base) T
 refine T.et3.okE xq6 (fun vs H Q E h => ?_) (fun cdv Ar outer s H vs Q E hr h => ?_)
 ·obtain ⟨x, y, out, rfl, hr0, e⟩ := h
  rfl
 ·obtain ⟨x, y, out, rfl, hr0, e⟩ := h
  refine ⟨_, (xa5 (xc2 (i := 2) xq6.nd rfl (Or.inl rfl) (xa8 G_wishes (hr.mono (by decide)) (by rfl) T.es3 T.eq3.kp T.er3 .nil yi3 (xa0 (pv 0) (xa0 (pv 1) xa2)))) yz1), ?_⟩
  refine xb8 (fun _ _ => False) (fun N hN => ?_) (fun _ _ z => z.elim)
  exact ⟨_, rfl, _, rfl, x, y, out, rfl, hr0, e⟩
def spCell (K : Frag) : Sp := fun vs H Q _ => ∃ (a : Addr) (ns : List Int) (i : Int), vs = [.ref a, .int i] /\ SqL K H a (ns.map V.int) /\ 0 <= i /\ ∀ v, Q (.int v) H
theorem xz9 (T : Txt K mg A) : FnOk P w K mg base (CXE P w) 1 A.em2 A.en2 ["_law_script", "_law_k"] (spCell K) := by
 refine T.ew3.okN xz6 (fun vs H Q E h => ?_) (fun cdv Ar outer s H vs Q E hr h => ?_)
 ·obtain ⟨a, ns, i, rfl, hS, hi, k⟩ := h
  rfl
 ·obtain ⟨a, ns, i, rfl, hS, hi, k⟩ := h
  refine ⟨_, (xa5 (xe5 (xf9 op_lt (pv 1) (xb2 (xj7 K) (by rfl) T.et6 PySem.boot_len (xa0 (pv 0) xa2)) (xf2 _)) (xa6 (xc0 (xj4 (xd8 K) (pv 0) (pv 1) (fun _ _ => rfl)))) xb7)
   (xa6 (xc0 xb1))), ?_⟩
  refine ⟨_, rfl, _, rfl, a, _, rfl, .inl hS, _, _, rfl, rfl, _, rfl, ?_⟩
  refine ite2 (fun c => ?_) (fun c => ?_)
  ·have c := of_decide_eq_true c
   rw [List.length_map] at c
   obtain ⟨v, hv⟩ : ∃ v, ns[i.toNat]? = some v := ⟨_, List.getElem?_eq_getElem (by omega)⟩
   refine ⟨_, rfl, _, rfl, a, _, _, _, rfl, rfl, hS, ?_, k v⟩
   have := xf0 (xs := ns.map V.int) (j := i.toNat) (v := .int v) (by rw [List.getElem?_map, hv]; rfl)
   rwa [Int.toNat_of_nonneg hi] at this
  ·exact k 0
theorem cell_at {ns : List Int} {i : Nat} (h : i < ns.length) : atI (ns.map V.int) (i : Int) = some (.int ns[i]) := xf0 (by rw [List.getElem?_map, List.getElem?_eq_getElem h]; rfl)
def spDrawn (K : Frag) : Sp := fun vs H Q _ => ∃ (a : Addr) (ns : List Int) (i : Nat), vs = [.ref a, .int i] /\ SqL K H a (ns.map V.int) /\ i < ns.length /\ ns.length <= 63 /\ ∀ v, 0 <= v -> Q (.int v) H
theorem yi8 (T : Txt K mg A) : FnOk P w K mg base (CXE P w) 1 A.eo2 A.ep2 ["_law_script", "_law_k"] (spDrawn K) := by
 refine T.ez3.okN yh4 (fun vs H Q E h => ?_) (fun cdv Ar outer s H vs Q E hr h => ?_)
 ·obtain ⟨a, ns, i, rfl, hS, hi, hlen, k⟩ := h
  rfl
 ·obtain ⟨a, ns, i, rfl, hS, hi, hlen, k⟩ := h
  refine ⟨_, (xa6 (xc0 (xd9 xl9 (xd9 za6 (xd9 xq9 (xj4 (xd8 K) (pv 0) (pv 1) (fun _ _ => rfl)) xb1) (xd9 xq9 xb1 (xd9 za6 (xd9 za6 xb1 (pv 1)) (pv 1)))) xb1))), ?_⟩
  have ha := cell_at hi
  have kk : (i : Int) * i <= 3844 := by
   have : i * i <= 62 * 62 := Nat.mul_le_mul (by omega) (by omega)
   have e : ((i * i : Nat) : Int) = (i : Int) * i := by push_cast; rfl
   omega
  have k0 : 0 <= (i : Int) * i := Int.mul_nonneg (by omega) (by omega)
  have e3 : 7919 * (i : Int) * i = 7919 * ((i : Int) * i) := Int.mul_assoc _ _ _
  refine ⟨_, rfl, _, rfl, a, _, _, _, rfl, rfl, hS, ha, _, _, rfl, rfl, _, rfl, _, _, rfl, rfl, .inl ⟨by decide, by decide⟩, _, rfl, _, _, rfl, rfl, .inr ⟨by omega, by omega⟩, _, _, rfl, rfl, _, _, rfl, rfl, .inr ⟨?_, ?_⟩, _, _, rfl, rfl, (by show (0 : Int) < 2147483629; decide), k _ (Int.emod_nonneg _ (by decide))⟩
  ·show -(2 ^ 64) < 48271 + 7919 * (i : Int) * i
   rw [e3]; omega
  ·show 48271 + 7919 * (i : Int) * i < 2 ^ 64
   rw [e3]; omega
abbrev zsT : Str := Str.ofString "zzzzzzzz"
abbrev ksT : Str := Str.ofString "kkkkkkkk"
def xw9 (num : Nat) (form : Int) : Str := if form % 3 = 1 then Txt.slice zsT none (some (1 + (num : Int) % 7)) else Txt.slice ksT none (some (form / 3 % 8)) ++ ⟨#[97 + num]⟩ ++ Txt.slice ksT none (some (form / 24 % (8 - form / 3 % 8)))
theorem name_fin : ∀ a : Fin 8, ∀ r : Fin 8, a.1 + r.1 < 8 -> xk9 (Txt.slice ksT none (some (a.1 : Int)) ++ ⟨#[97 + 0]⟩ ++ Txt.slice ksT none (some (r.1 : Int))) = true /\ xk9 (Txt.slice ksT none (some (a.1 : Int)) ++ ⟨#[97 + 1]⟩ ++ Txt.slice ksT none (some (r.1 : Int))) = true /\
  (Txt.slice ksT none (some (a.1 : Int)) ++ ⟨#[97 + 0]⟩ ++ Txt.slice ksT none (some (r.1 : Int)) : Str) ≠ Txt.slice ksT none (some (a.1 : Int)) ++ ⟨#[97 + 1]⟩ ++ Txt.slice ksT none (some (r.1 : Int)) := by decide +kernel
theorem name_ok (form : Int) : xk9 (xw9 0 form) = true /\ xk9 (xw9 1 form) = true /\ xw9 0 form ≠ xw9 1 form := by
 unfold xw9
 by_cases c : form % 3 = 1
 ·rw [if_pos c, if_pos c]; decide +kernel
 ·rw [if_neg c, if_neg c]
  have a0 : 0 <= form / 3 % 8 := Int.emod_nonneg _ (by decide)
  have a1 : form / 3 % 8 < 8 := Int.emod_lt_of_pos _ (by decide)
  generalize form / 3 % 8 = at' at a0 a1
  have r0 : 0 <= form / 24 % (8 - at') := Int.emod_nonneg _ (by omega)
  have r1 : form / 24 % (8 - at') < 8 - at' := Int.emod_lt_of_pos _ (by omega)
  generalize form / 24 % (8 - at') = r at r0 r1
  have := name_fin ⟨at'.toNat, by omega⟩ ⟨r.toNat, by omega⟩ (by show at'.toNat + r.toNat < 8; omega)
  simp only [Int.toNat_of_nonneg a0, Int.toNat_of_nonneg r0] at this
  exact this
theorem xk4 {z : Str} (h : xk9 z = true) : z.length <= 1000 := by
 unfold xk9 at h
 simp only [Bool.and_eq_true, decide_eq_true_eq] at h
 omega
def spName : Sp := fun vs H Q _ => ∃ (num : Nat) (form : Int), vs = [.int num, .int form] /\ num < 2 /\ Q (.str (xw9 num form)) H
theorem yn1 (T : Txt K mg A) : FnOk P w K mg base (CXE P w) 1 A.eq2 A.er2 ["_law_number", "_law_form"] (spName) := by
 refine T.ec4.okN xv6 (fun vs H Q E h => ?_) (fun cdv Ar outer s H vs Q E hr h => ?_)
 ·obtain ⟨num, form, rfl, hn, k⟩ := h
  rfl
 ·obtain ⟨num, form, rfl, hn, k⟩ := h
  refine ⟨_, (xa5 (xe5 (xf9 yt8 (xd9 xl9 (pv 1) xb1) xb1 (xf2 _)) (xa6 (xc0 (ye0 yy0 xe1 ym7 (ym6 (xd9 xq9 xb1 (xd9 xl9 (pv 0) xb1)))))) xb7)
   (xa5 (xc2 (i := 2) xv6.nd rfl (Or.inl rfl) (xd9 xl9 (xd9 xu5 (pv 1) xb1) xb1))
   (xa6 (xc0 (xd9 yb2 (xd9 yb2 (ye0 yy0 xe1 ym7 (ym6 (pv 2))) (xj4 ix_str xe1 (xd9 xl9 (pv 0) xb1) (fun _ _ => rfl))) (ye0 yy0 xe1 ym7 (ym6 (xd9 xl9 (xd9 xu5 (pv 1) xb1) (xd9 yi6 xb1 (pv 2)))))))))), ?_⟩
  have hzl : zsT.length = 8 := by decide +kernel
  have hkl : ksT.length = 8 := by decide +kernel
  unfold xw9 at k
  by_cases c : form % 3 = 1
  ·rw [if_pos c] at k
   refine xb8 (fun _ _ => False) (fun N hN => ?_) (fun _ _ z => z.elim)
   refine ⟨_, rfl, _, _, rfl, rfl, (by show (0 : Int) < 3; decide), rfl, _, rfl, ?_⟩
   rw [show decide (V.int (form % 3) = V.int 1) = true from decide_eq_true (by rw [c])]
   exact iteT ⟨_, rfl, _, _, rfl, rfl, (by show (0 : Int) < 7; decide), _, _, rfl, rfl, _, rfl, _, rfl, xd7 (by rw [hzl]; decide), k⟩
  ·rw [if_neg c] at k
   refine xq5 (fun σ' H' => σ' = [some (.int num), some (.int form), some (.int (form / 3 % 8))] /\ H' = H) (fun N hN => ?_) ?_
   ·refine ⟨_, rfl, _, _, rfl, rfl, (by show (0 : Int) < 3; decide), rfl, _, rfl, ?_⟩
    rw [show decide (V.int (form % 3) = V.int 1) = false from decide_eq_false (fun z => c (V.int.inj z))]
    exact iteF ⟨_, rfl, _, _, rfl, rfl, ⟨by decide, by decide⟩, _, _, rfl, rfl, (by show (0 : Int) < 8; decide), hN _ _ ⟨rfl, rfl⟩⟩
   rintro σ' H1 ⟨rfl, rfl⟩
   have a0 : 0 <= form / 3 % 8 := Int.emod_nonneg _ (by decide)
   have a1 : form / 3 % 8 < 8 := Int.emod_lt_of_pos _ (by decide)
   have hat : atI (cs (Str.ofString "abcdefg")) ((num : Int) % 7) = some (97 + num) := by
    match num, hn with
    | 0, _ => decide +kernel
    | 1, _ => decide +kernel
   have l7 : (Str.ofString "abcdefg").length = 7 := by decide +kernel
   have sl : ∀ lo hi, (Txt.slice (Str.ofString "kkkkkkkk") lo hi).length <= 8 := fun lo hi => Nat.le_trans (Txt.slice_le ksT lo hi) (by rw [hkl]; decide)
   have s1 := sl none (some (form / 3 % 8))
   have s2 := sl none (some (form / 24 % (8 - form / 3 % 8)))
   have d1 : (⟨#[97 + num]⟩ : Str).length = 1 := rfl
   refine ⟨_, rfl, _, rfl, _, rfl, xd7 (by rw [hkl]; decide), _, rfl, _, _, rfl, rfl, (by show (0 : Int) < 7; decide), _, _, _, rfl, rfl, xd7 (by rw [l7]; decide), hat, _, _, rfl, rfl, xd7 (by omega), ?_⟩
   exact ⟨_, rfl, _, _, rfl, rfl, ⟨by decide, by decide⟩, _, rfl, _, _, rfl, rfl, _, _, rfl, rfl, (by show (0 : Int) < 8 - form / 3 % 8; omega), _, rfl, _, rfl, xd7 (by rw [hkl]; decide), _, _, rfl, rfl, xd7 (by rw [app_len]; omega), k⟩
def noE : Expr := match (xa9 xc7).getD 0 (.Pass ⟨0, 0, 0, 0⟩) with | .Return (some (.Subscript (.List _ _) i _)) _ => i | _ => .List [] ⟨0, 0, 0, 0⟩
def noL : List Expr := match (xa9 xc7).getD 0 (.Pass ⟨0, 0, 0, 0⟩) with | .Return (some (.Subscript (.List es _) _ _)) _ => es | _ => []
abbrev tNo11 : TA := xn4 (tC (.str (Str.ofString ""))) (xn4 (tC (.str (Str.ofString "abcdefghi"))) (xn4 (tC (.str (Str.ofString "Ab"))) (xn4 (tC (.str (Str.ofString "a b"))) (xn4 (tC (.str (Str.ofString "a1"))) (xn4 (tC .non) (xn4 (tC (.int 1)) (xn4 (tC (.bl true)) (xn4 (tTupS (xn4 (tC (.str (Str.ofString "a"))) tNil)) (xn4 (tLstS (xn4 (tC (.str (Str.ofString "a"))) tNil)) (xn4 yx3 tNil))))))))))
theorem no_L : ∃ e1 e2 e3 e4 e5 e6 e7 e8 e9 e10 e11, noL = [e1, e2, e3, e4, e5, e6, e7, e8, e9, e10, e11] /\ ItemOk e1 (tC (.str (Str.ofString ""))) /\ ItemOk e2 (tC (.str (Str.ofString "abcdefghi"))) /\ ItemOk e3 (tC (.str (Str.ofString "Ab"))) /\ ItemOk e4 (tC (.str (Str.ofString "a b"))) /\ ItemOk e5 (tC (.str (Str.ofString "a1"))) /\ ItemOk e6 (tC .non) /\
  ItemOk e7 (tC (.int 1)) /\ ItemOk e8 (tC (.bl true)) /\ ItemOk e9 (tTupS (xn4 (tC (.str (Str.ofString "a"))) tNil)) /\ ItemOk e10 (tLstS (xn4 (tC (.str (Str.ofString "a"))) tNil)) /\ ItemOk e11 yx3 :=
 ⟨_, _, _, _, _, _, _, _, _, _, _, rfl, ⟨fun _ => xe1, fun _ _ => rfl⟩, ⟨fun _ => xe1, fun _ _ => rfl⟩, ⟨fun _ => xe1, fun _ _ => rfl⟩, ⟨fun _ => xe1, fun _ _ => rfl⟩, ⟨fun _ => xe1, fun _ _ => rfl⟩, ⟨fun _ => ya9, fun _ _ => rfl⟩,
  ⟨fun _ => xb1, fun _ _ => rfl⟩, ⟨fun _ => xj5, fun _ _ => rfl⟩, ⟨fun _ => xk6 (xa0 xe1 xa2), fun _ _ => rfl⟩, ⟨fun _ => xc1 (xa0 xe1 xa2), fun _ _ => rfl⟩, ⟨fun _ => xh6, fun _ _ => rfl⟩⟩
theorem no_pa {X : Cx} : PA X noL tNo11 := by
 obtain ⟨e1, e2, e3, e4, e5, e6, e7, e8, e9, e10, e11, h, i1, i2, i3, i4, i5, i6, i7, i8, i9, i10, i11⟩ := no_L
 rw [h]
 exact i1.pa (i2.pa (i3.pa (i4.pa (i5.pa (i6.pa (i7.pa (i8.pa (i9.pa (i10.pa (i11.pa xa2))))))))))
theorem no_body : ∃ q1 q2 q3, xa9 xc7 = [.Return (some (.Subscript (.List noL q1) noE q2)) q3] := ⟨_, _, _, rfl⟩
theorem no_pack : ∃ (l : List Expr) (q1 q2 q3 : Pos), xa9 xc7 = [.Return (some (.Subscript (.List l q1) noE q2)) q3] /\ ∀ X : Cx, PA X l tNo11 := by
 obtain ⟨q1, q2, q3, hb⟩ := no_body
 exact ⟨noL, q1, q2, q3, hb, fun X => @no_pa X⟩
theorem Lm.txt {K : Frag} {H : Hp} {z : Str} (h : z.length <= 1000) (e : xk9 z = false) : Lm K H (.str z) false := by
 have := Lm.str (K := K) (H := H) z h
 rwa [e] at this
theorem no_all {K : Frag} {H : Hp} {q1 q2 q3 : Addr} (h1 : H q1 = some (.tup [.str (Str.ofString "a")])) (h2 : H q2 = some (.lst [.str (Str.ofString "a")])) (h3 : H q3 = some (.dT [])) :
  ∀ (j : Nat) (y : V), ([.str (Str.ofString ""), .str (Str.ofString "abcdefghi"), .str (Str.ofString "Ab"), .str (Str.ofString "a b"), .str (Str.ofString "a1"), .non, .int 1, .bl true, .ref q1, .ref q2, .ref q3] : List V)[j]? = some y -> Lm K H y false := by
 intro j y h
 have st : ∀ s : String, (Str.ofString s).length <= 1000 -> xk9 (Str.ofString s) = false -> Lm K H (.str (Str.ofString s)) false := fun s h e => Lm.txt h e
 rcases j with _ | _ | _ | _ | _ | _ | _ | _ | _ | _ | _ | j
 all_goals first | (cases h; exact st _ (by decide +kernel) (by decide +kernel)) | skip
 ·cases h; exact .other _ "NoneType" .non (by kernel_rfl)
 ·cases h; exact .other _ "int" (.int _) (by kernel_rfl)
 ·cases h; exact .other _ "bool" (.bl _) (by kernel_rfl)
 ·cases h; exact .other _ "tuple" (.tup h1) (by kernel_rfl)
 ·cases h; exact .other _ "list" (.lst h2) (by kernel_rfl)
 ·cases h; exact .other _ "dict" (.dT h3) (by kernel_rfl)
 ·simp at h
def spNoLamp (K : Frag) : Sp := fun vs H Q _ => ∃ n : Int, vs = [.int n] /\ ∀ y H', Same H H' -> Lm K H' y false -> Q y H'
theorem xz8 (T : Txt K mg A) : FnOk P w K mg base (CXE P w) 1 A.es2 A.et2 ["_law_number"] (spNoLamp K) := by
 refine T.ef4.okN xz5 (fun vs H Q E h => ?_) (fun cdv Ar outer s H vs Q E hr h => ?_)
 ·obtain ⟨n, rfl, k⟩ := h
  rfl
 ·obtain ⟨n, rfl, k⟩ := h
  obtain ⟨l, q1, q2, q3, hb, hpa⟩ := no_pack
  rw [hb]
  refine ⟨_, (xa6 (xc0 (xj4 ix_lst (xc1 (hpa _)) (xd9 xl9 (pv 0) xb1) (fun _ _ => rfl)))), ?_⟩
  refine ⟨(by show 1 <= 1000; decide), fun t ht => ?_⟩
  have s1 := Same.new (o := HO.tup [V.str (Str.ofString "a")]) ht
  have f1 : (upd H t (HO.tup [V.str (Str.ofString "a")])) t = some (HO.tup [V.str (Str.ofString "a")]) := xa1
  generalize upd H t (HO.tup [V.str (Str.ofString "a")]) = H1 at s1 f1 ⊢
  refine ⟨(by show 1 <= 1000; decide), fun L hL => ?_⟩
  have s2 := Same.new (o := HO.lst [V.str (Str.ofString "a")]) hL
  have f2 : (upd H1 L (HO.lst [V.str (Str.ofString "a")])) L = some (HO.lst [V.str (Str.ofString "a")]) := xa1
  generalize upd H1 L (HO.lst [V.str (Str.ofString "a")]) = H2 at s2 f2 ⊢
  intro D hD
  have s3 := Same.new (o := HO.dT []) hD
  have f3 : (upd H2 D (HO.dT [])) D = some (HO.dT []) := xa1
  generalize upd H2 D (HO.dT []) = H3 at s3 f3 ⊢
  refine ⟨(by show 11 <= 1000; decide), fun R hR => ?_⟩
  generalize hxs : ([.str (Str.ofString ""), .str (Str.ofString "abcdefghi"), .str (Str.ofString "Ab"), .str (Str.ofString "a b"), .str (Str.ofString "a1"), .non, .int 1, .bl true, .ref t, .ref L, .ref D] : List V) = xs
  have hxl : xs.length = 11 := by rw [<- hxs]; rfl
  have s4 := Same.new (o := HO.lst xs) hR
  have f4 : (upd H3 R (HO.lst xs)) R = some (HO.lst xs) := xa1
  generalize upd H3 R (HO.lst xs) = H4 at s4 f4 ⊢
  have m0 := Int.emod_nonneg n (show (11 : Int) ≠ 0 by decide)
  have m1 := Int.emod_lt_of_pos n (show (0 : Int) < 11 by decide)
  obtain ⟨y, e2⟩ : ∃ y, xs[(n % 11).toNat]? = some y := ⟨_, List.getElem?_eq_getElem (by rw [hxl]; omega)⟩
  have hy : atI xs (n % 11) = some y := by
   have := xf0 e2
   rwa [Int.toNat_of_nonneg m0] at this
  refine ⟨_, rfl, _, _, rfl, rfl, (by show (0 : Int) < 11; decide), _, _, _, _, rfl, rfl, f4, hy, k _ _ (((s1.trans s2).trans s3).trans s4) ?_⟩
  rw [<- hxs] at e2
  exact no_all (s4 _ _ (s3 _ _ (s2 _ _ f1))) (s4 _ _ (s3 _ _ f2)) (s4 _ _ f3) _ y e2
theorem yl1 {X : Cx} {f : Value} {r1 r2 : List V -> Hp -> VK -> Prop} (h1 : xi1 X f r1) (h2 : xi1 X f r2) : xi1 X f (fun xs H Q => r1 xs H Q \/ r2 xs H Q) := fun pins s σ H xs us Q I r h => h.elim (h1 pins s σ H xs us Q I r) (h2 pins s σ H xs us Q I r)
def spTr (K : Frag) (A : Adr) : Sp := fun vs H Q _ => ∃ (way : Int) (x y : V) (out : List V), vs = [.int way, x, y] /\ Rf K A H x y out /\ ∀ M H', Same H H' -> H' M = some (.lst out) -> Q (.ref M) H'
theorem ye2 (T : Txt K mg A) : FnOk P w K mg base (CXE P w) 8 A.eu2 A.ev2 ["_law_way", "_law_cues", "_law_lamps"] (spTr K A) := by
 have G_moved_dark := ya0 (P := P) (w := w) (base := base) T
 have G_wishes := yb7 (P := P) (w := w) (base := base) T
 refine T.ei4.okN xf5 (fun vs H Q E h => ?_) (fun cdv Ar outer s H vs Q E hr h => ?_)
 ·obtain ⟨way, x, y, out, rfl, hr0, k⟩ := h
  rfl
 ·obtain ⟨way, x, y, out, rfl, hr0, k⟩ := h
  refine ⟨_, (xa5 (xc2 (i := 3) xf5.nd rfl (Or.inl rfl) ya9)
   (xa5 (ps_try (i := 4) K rfl rfl rfl (pb_if (xf9 yt8 (pv 0) xb1 (xf2 _)) (za4 (yy8 rfl G_wishes (hr.mono (by decide)) (by rfl) T.es3 T.eq3.kp T.er3 .nil (fun _ => (xa0 (pv 1) (xa0 (pv 2) xa2))))) (za4 (yy8 rfl G_moved_dark (hr.mono (by decide)) (by rfl) T.ev3 T.et3.kp T.eu3 .nil (fun _ => (xa0 (pv 1) (xa0 (pv 2) xa2)))))) (by rfl) T.ej5 xf5.nd rfl rfl (fun _ => (xa6 (xc2 (i := 3) xf5.nd rfl (Or.inl rfl) (pv 4)))))
   (xa5 (xe5 (xf1 (xe0 (xb2 (yl1 (xr9 K) (xo0 K)) (by rfl) T.ek6 xb0 (xa0 (pv 3) (xa0 (xw1 (by rfl) T.ey6 xz1) xa2))))) (xa6 (xc0 (xc1 xa2))) xb7)
   (xa5 (xc2 (i := 5) xf5.nd rfl (Or.inl rfl) (xc1 (xa0 (xb2 (yl1 (xr9 K) (xo0 K)) (by rfl) T.ek6 xb0 (xa0 (pv 3) (xa0 (xk7 (v := V.ref _) (by rfl) T.ek5 rfl) xa2))) (xa0 (xb2 (yl1 (xr9 K) (xo0 K)) (by rfl) T.ek6 xb0 (xa0 (pv 3) (xa0 (xk7 (v := V.ref _) (by rfl) T.el5 rfl) xa2))) (xa0 (xb2 (yl1 (xr9 K) (xo0 K)) (by rfl) T.ek6 xb0 (xa0 (pv 3) (xa0 (xk7 (v := V.ref _) (by rfl) T.em5 rfl) xa2))) xa2)))))
   (xa5 (xe5 (xe0 (xb2 (yl1 (xr9 K) (xo0 K)) (by rfl) T.ek6 xb0 (xa0 (pv 3) (xa0 (xk7 (v := V.ref _) (by rfl) T.em5 rfl) xa2)))) (xa6 (xc2 (i := 5) xf5.nd rfl (Or.inl rfl) (xd9 zb0 (pv 5) (xc1 (xa0 (yz8 K (pv 3)) (xa0 (yz8 K (pv 3)) xa2)))))) xb7)
   (xa6 (xc0 (pv 5)))))))), ?_⟩
  refine xb8 (fun σ' H' => σ' = [some (.int way), some x, some y, some .non, none, none] /\ H' = H) (fun N hN => hN _ _ ⟨rfl, rfl⟩) ?_
  rintro σ' H0 ⟨rfl, rfl⟩
  refine xb8 (fun σ' H' => ∃ ea C dxo, σ' = [some (.int way), some x, some y, some (.ref ea), none, none] /\ Same H0 H' /\ Out A H' C dxo out /\ H' ea = some (yv6 ea (.ref C) dxo)) (fun N hN => ?_) ?_
  ·have xm : ∀ {G C dxo}, Out A G C dxo out -> exmOne K (.ref C) (.ref A.ec3) = some true := fun ho => by
    cases ho with
    | nol => exact T.ep5
    | non => exact T.ex5
    | brt => exact T.ee6
   have keep : ∀ {G G' C dxo}, Out A G C dxo out -> Same G G' -> Out A G' C dxo out := fun ho s => by
    cases ho with
    | nol => exact .nol
    | non => exact .non
    | brt dx l n h => exact .brt dx l n (s _ _ h)
   refine ⟨_, rfl, rfl, _, rfl, ?_⟩
   refine ite2 (fun _ => ?_) (fun _ => ?_)
   ·exact ⟨_, rfl, _, rfl, x, y, out, rfl, hr0, fun C dxo G sG ho => ⟨xm ho, fun ea hea => ⟨_, rfl, hN _ _ ⟨ea, C, dxo, rfl, sG.trans (Same.new hea), keep ho (Same.new hea), xa1⟩⟩⟩⟩
   ·exact ⟨_, rfl, _, rfl, x, y, out, rfl, hr0, fun C dxo G sG ho => ⟨xm ho, fun ea hea => ⟨_, rfl, hN _ _ ⟨ea, C, dxo, rfl, sG.trans (Same.new hea), keep ho (Same.new hea), xa1⟩⟩⟩⟩
  rintro σ' H1 ⟨ea, C, dxo, rfl, s1, ho, fe⟩
  cases ho with
  | nol =>
   refine ⟨_, rfl, .inl ⟨_, _, _, _, _, rfl, fe, T.eo5, rfl, (fun _ z => z), T.eq5, _, rfl, iteF ?_⟩⟩
   refine ⟨_, rfl, .inl ⟨_, _, _, _, _, rfl, fe, T.eo5, rfl, (fun _ z => z), T.es5, _, rfl, .inl ⟨_, _, _, _, _, rfl, fe, T.eo5, rfl, (fun _ z => z), T.et5, _, rfl, .inl ⟨_, _, _, _, _, rfl, fe, T.eo5, rfl, (fun _ z => z), T.eu5, (by show 3 <= 1000; decide), fun M hM => ?_⟩⟩⟩⟩
   have sM := Same.new (o := HO.lst [V.bl true, V.bl false, V.bl false]) hM
   exact ⟨_, rfl, .inl ⟨_, _, _, _, _, rfl, sM _ _ fe, T.eo5, rfl, (fun _ z => z), T.eu5, _, rfl, iteF ⟨_, rfl, k M _ (s1.trans sM) xa1⟩⟩⟩
  | non =>
   refine ⟨_, rfl, .inl ⟨_, _, _, _, _, rfl, fe, T.ew5, rfl, (fun _ z => z), T.ey5, _, rfl, iteF ?_⟩⟩
   refine ⟨_, rfl, .inl ⟨_, _, _, _, _, rfl, fe, T.ew5, rfl, (fun _ z => z), T.ea6, _, rfl, .inl ⟨_, _, _, _, _, rfl, fe, T.ew5, rfl, (fun _ z => z), T.eb6, _, rfl, .inl ⟨_, _, _, _, _, rfl, fe, T.ew5, rfl, (fun _ z => z), T.ec6, (by show 3 <= 1000; decide), fun M hM => ?_⟩⟩⟩⟩
   have sM := Same.new (o := HO.lst [V.bl false, V.bl true, V.bl false]) hM
   exact ⟨_, rfl, .inl ⟨_, _, _, _, _, rfl, sM _ _ fe, T.ew5, rfl, (fun _ z => z), T.ec6, _, rfl, iteF ⟨_, rfl, k M _ (s1.trans sM) xa1⟩⟩⟩
  | brt dx lamp n hx =>
   refine ⟨_, rfl, .inr ⟨_, _, _, _, _, _, _, rfl, fe, hx, T.ed6, rfl, (fun _ z => z), T.ef6, _, rfl, iteF ?_⟩⟩
   refine ⟨_, rfl, .inr ⟨_, _, _, _, _, _, _, rfl, fe, hx, T.ed6, rfl, (fun _ z => z), T.eh6, _, rfl, .inr ⟨_, _, _, _, _, _, _, rfl, fe, hx, T.ed6, rfl, (fun _ z => z), T.ei6, _, rfl, .inr ⟨_, _, _, _, _, _, _, rfl, fe, hx, T.ed6, rfl, (fun _ z => z), T.ej6, (by show 3 <= 1000; decide), fun M hM => ?_⟩⟩⟩⟩
   have sM := Same.new (o := HO.lst [V.bl false, V.bl false, V.bl true]) hM
   have eM : (upd H1 M (HO.lst [V.bl false, V.bl false, V.bl true])) M = some (HO.lst [V.bl false, V.bl false, V.bl true]) := xa1
   generalize upd H1 M (HO.lst [V.bl false, V.bl false, V.bl true]) = H2 at sM eM ⊢
   have fe2 := sM _ _ fe
   have hx2 := sM _ _ hx
   refine ⟨_, rfl, .inr ⟨_, _, _, _, _, _, _, rfl, fe2, hx2, T.ed6, rfl, (fun _ z => z), T.ej6, _, rfl, iteT ?_⟩⟩
   refine ⟨_, rfl, _, rfl, _, _, _, _, _, rfl, fe2, hx2, T.ed6, T.eb3, T.ec3, rfl, _, rfl, _, _, _, _, _, rfl, fe2, hx2, T.ed6, T.eb3, T.ed3, rfl, (by show 2 <= 1000; decide), fun M2 hM2 => ?_⟩
   have sM2 := Same.new (o := HO.lst [V.str lamp, V.int n]) hM2
   refine ⟨M, M2, _, _, rfl, rfl, sM2 _ _ eM, xa1, xd7 (by show 3 + 2 <= 1000; decide), fun M3 hM3 => ?_⟩
   exact ⟨_, rfl, k M3 _ (((s1.trans sM).trans sM2).trans (Same.new hM3)) xa1⟩
theorem yu9 {z : Str} (h : xk9 z = true) : PyData.strOk z = true := by
 unfold xk9 at h
 simp only [Bool.and_eq_true] at h
 unfold PyData.strOk
 rw [<- Array.all_toList, List.all_eq_true]
 intro c hc
 have := List.all_eq_true.mp h.2.2 c hc
 unfold yj7 at this
 simp only [Bool.and_eq_true, decide_eq_true_eq] at this
 exact decide_eq_true (by omega)
theorem rf_data {K : Frag} {A : Adr} {H : Hp} {x y : V} {out : List V} (h : Rf K A H x y out) : ∃ ds : List PyData, (∀ H', AreD8 K H' out ds) /\ PySem.SeqAt.shaped (.list ds) = true /\ PyData.eqv (.list ds) (.list ds) = true := by
 have three : ∀ a b c : Bool, ∃ ds : List PyData, (∀ H', AreD8 K H' [V.bl a, V.bl b, V.bl c] ds) /\ PySem.SeqAt.shaped (.list ds) = true /\ PyData.eqv (.list ds) (.list ds) = true := fun a b c =>
  ⟨[.bool a, .bool b, .bool c], fun H' => .cons (.bl a) (.cons (.bl b) (.cons (.bl c) .nil)), rfl, by simp [PyData.eqv, PyData.eqvAll]⟩
 cases h with
 | nol => exact three _ _ _
 | non => exact three _ _ _
 | brt l M c1 c2 lamp n1 n2 v zs hl hc h1 h2 hM hz hzs hin =>
  have so := yu9 (hzs lamp hin).1
  refine ⟨[.bool false, .bool false, .bool true, .str lamp, .int n2], fun H' => .cons (.bl _) (.cons (.bl _) (.cons (.bl _) (.cons (.str _) (.cons (.int _) .nil)))), ?_, by simp [PyData.eqv, PyData.eqvAll]⟩
  unfold PySem.SeqAt.shaped
  simp [PyData.canLay0, PyData.canLayAll0, PyData.depth, PyData.depthAll, so]
def spBoth (K : Frag) (A : Adr) : Sp := fun vs H Q _ => ∃ (x y : V) (R : Addr) (out : List V), vs = [x, y, .ref R] /\ Rf K A H x y out /\ H R = some (.lst out) /\ ∀ H', Same H H' -> Q (.bl true) H'
theorem yn2 (T : Txt K mg A) : FnOk P w K mg base (CXE P w) 9 A.ew2 A.ex2 ["_law_cues", "_law_lamps", "_law_due"] (spBoth K A) := by
 have G_law_truths := ye2 (P := P) (w := w) (base := base) T
 refine T.el4.okN ym0 (fun vs H Q E h => ?_) (fun cdv Ar outer s H vs Q E hr h => ?_)
 ·obtain ⟨x, y, R, out, rfl, hr0, hR, k⟩ := h
  rfl
 ·obtain ⟨x, y, R, out, rfl, hr0, hR, k⟩ := h
  refine ⟨_, (xa6 (xc0 (xn1 (xk8 (op_eqD K hr.units) (xa8 G_law_truths (hr.mono (by decide)) (by rfl) T.ek4 T.ei4.kp T.ej4 .nil xb4 (xa0 xb1 (xa0 (pv 0) (xa0 (pv 1) xa2)))) (pv 2) (xf2 _)) (xn6 (xk8 (op_eqD K hr.units) (xa8 G_law_truths (hr.mono (by decide)) (by rfl) T.ek4 T.ei4.kp T.ej4 .nil xb4 (xa0 xb1 (xa0 (pv 0) (xa0 (pv 1) xa2)))) (pv 2) (xf2 _)))))), ?_⟩
  obtain ⟨ds, ar, sh, eq⟩ := rf_data hr0
  refine ⟨_, rfl, _, rfl, 0, x, y, out, rfl, hr0, fun M1 H1 s1 hM1 => ⟨_, rfl, _, _, .lst (SqL.of hM1) (ar _), .lst (SqL.of (s1 _ _ hR)) (ar _), sh, sh, _, rfl, ?_⟩⟩
  rw [eq]
  refine iteT ⟨_, rfl, _, rfl, 1, x, y, out, rfl, hr0.keep s1, fun M2 H2 s2 hM2 => ⟨_, rfl, _, _, .lst (SqL.of hM2) (ar _), .lst (SqL.of ((s1.trans s2) _ _ hR)) (ar _), sh, sh, ?_⟩⟩
  rw [eq]
  exact k _ (s1.trans s2)
theorem ye9 {H H' : Hp} {x dx C : Addr} {fs : List (Str × V)} (nx : H x = none) (ndx : H dx = none) (k : ∀ b o, b ≠ x -> (upd (upd H dx (.own x)) x (.ins C dx fs)) b = some o -> H' b = some o) : Same H H' := fun b o e =>
 k b o (xa7 e nx) (by rw [xa3 (xa7 e nx), xa3 (xa7 e ndx)]; exact e)
theorem kit_nl {K : Frag} : kitOne K (.type "NoneType") (.type "list") = some false := by kernel_rfl
theorem kit_tl {K : Frag} : kitOne K (.type "tuple") (.type "list") = some false := by kernel_rfl
theorem kit_dl {K : Frag} : kitOne K (.type "dict") (.type "list") = some false := by kernel_rfl
theorem zb7 {K : Frag} : kitOne K (.type "str") (.type "list") = some false := by kernel_rfl
theorem kit_il {K : Frag} : kitOne K (.type "int") (.type "list") = some false := by kernel_rfl
theorem kit_bl {K : Frag} : kitOne K (.type "bool") (.type "list") = some false := by kernel_rfl
theorem menu7 {x0 x1 x2 x3 x4 x5 x6 : V} {P : V -> Prop} {i : Int} (h0 : 0 <= i) (h1 : i < 7) (p0 : P x0) (p1 : P x1) (p2 : P x2) (p3 : P x3) (p4 : P x4) (p5 : P x5) (p6 : P x6) : ∃ x, P x /\ atI [x0, x1, x2, x3, x4, x5, x6] i = some x := by
 have : i = 0 \/ i = 1 \/ i = 2 \/ i = 3 \/ i = 4 \/ i = 5 \/ i = 6 := by omega
 rcases this with rfl | rfl | rfl | rfl | rfl | rfl | rfl
 ·exact ⟨_, p0, xf0 (j := 0) rfl⟩
 ·exact ⟨_, p1, xf0 (j := 1) rfl⟩
 ·exact ⟨_, p2, xf0 (j := 2) rfl⟩
 ·exact ⟨_, p3, xf0 (j := 3) rfl⟩
 ·exact ⟨_, p4, xf0 (j := 4) rfl⟩
 ·exact ⟨_, p5, xf0 (j := 5) rfl⟩
 ·exact ⟨_, p6, xf0 (j := 6) rfl⟩
theorem menu2 {x0 x1 : V} {P : V -> Prop} {i : Int} (h0 : 0 <= i) (h1 : i < 2) (p0 : P x0) (p1 : P x1) : ∃ x, P x /\ atI [x0, x1] i = some x := by
 have : i = 0 \/ i = 1 := by omega
 rcases this with rfl | rfl
 ·exact ⟨_, p0, xf0 (j := 0) rfl⟩
 ·exact ⟨_, p1, xf0 (j := 1) rfl⟩
theorem xy9 : inV (.str xb9) xv2 = true := by decide +kernel
theorem yp4 : inV (.str redT) xv2 = true := by decide +kernel
theorem xq3 {lamp sd : Str} {i : Int} (hl : xk9 lamp = true) (hs : inV (.str sd) xv2 = true) (h1 : 1 <= i) (h2 : i <= 1000000000) : xs3 [(xd1 lamp sd, .int i)] :=
 ⟨Nat.le_refl _, fun kv hk => by obtain rfl := List.mem_singleton.mp hk; exact ⟨lamp, sd, i, rfl, hl, xk4 hl, hs, h1, h2⟩⟩
theorem ty_put {K : Frag} {H : Hp} {x : V} {t : Value} {M : Addr} {xs ys : List V} (h : TyOf K H x t) (hM : H M = some (.lst xs)) : TyOf K (upd H M (.lst ys)) x t := by
 cases h with
 | non => exact .non
 | bl b => exact .bl b
 | int i => exact .int i
 | str z => exact .str z
 | flt z => exact .flt z
 | @lst q zs e =>
  by_cases c : q = M
  ·subst c; exact .lst xa1
  ·exact .lst (by rw [xa3 c]; exact e)
 | frz e => exact .frz (by rw [xa3 (xk0 e hM (by intro z; cases z))]; exact e)
 | tup e => exact .tup (by rw [xa3 (xk0 e hM (by intro z; cases z))]; exact e)
 | dK e => exact .dK (by rw [xa3 (xk0 e hM (by intro z; cases z))]; exact e)
 | dT e => exact .dT (by rw [xa3 (xk0 e hM (by intro z; cases z))]; exact e)
 | ins e a1 a2 a3 a4 a5 => exact .ins (by rw [xa3 (xk0 e hM (by intro z; cases z))]; exact e) a1 a2 a3 a4 a5
def spLaw (K : Frag) : Sp := fun vs H Q _ => ∃ (a : Addr) (ns : List Int), vs = [.ref a] /\ SqL K H a (ns.map V.int) /\ ns.length <= 63 /\ ∀ H', Q (.bl true) H'
theorem ok_law (T : Txt K mg A) : FnOk P w K mg base (CXE P w) 10 A.ey2 A.ez2 ["_law_script"] (spLaw K) := by
 have G_Cue_init := yn4 (P := P) (w := w) (base := base) T
 have G_MovesBright_init := xg4 (P := P) (w := w) (base := base) T
 have G_Part_init := yj1 (P := P) (w := w) (base := base) T
 have G_law_both := yn2 (P := P) (w := w) (base := base) T
 have G_law_cell_at := xz9 (P := P) (w := w) (base := base) T
 have G_law_drawn := yi8 (P := P) (w := w) (base := base) T
 have G_law_name := yn1 (P := P) (w := w) (base := base) T
 have G_law_no_lamp := xz8 (P := P) (w := w) (base := base) T
 have G_wishes := yu2 (P := P) (w := w) (base := base) T
 refine T.eo4.okN xj2 (fun vs H Q E h => ?_) (fun cdv Ar outer s H vs Q E hr h => ?_)
 ·obtain ⟨a, ns, rfl, hS, hlen, k⟩ := h
  rfl
 ·obtain ⟨a, ns, rfl, hS, hlen, k⟩ := h
  refine ⟨_, (xa5 (xc2 (i := 1) xj2.nd rfl (Or.inl rfl) (xa8 G_law_cell_at (hr.mono (by decide)) (by rfl) T.ey3 T.ew3.kp T.ex3 .nil xb4 (xa0 (pv 0) (xa0 xb1 xa2))))
   (xa5 (xc2 (i := 2) xj2.nd rfl (Or.inl rfl) (xa8 G_law_name (hr.mono (by decide)) (by rfl) T.ee4 T.ec4.kp T.ed4 .nil xb4 (xa0 xb1 (xa0 (pv 1) xa2))))
   (xa5 (xc2 (i := 3) xj2.nd rfl (Or.inl rfl) (xa8 G_law_name (hr.mono (by decide)) (by rfl) T.ee4 T.ec4.kp T.ed4 .nil xb4 (xa0 xb1 (xa0 (pv 1) xa2))))
   (xa5 (xc2 (i := 4) xj2.nd rfl (Or.inl rfl) (xd9 xq9 xb1 (xd9 xl9 (xa8 G_law_cell_at (hr.mono (by decide)) (by rfl) T.ey3 T.ew3.kp T.ex3 .nil xb4 (xa0 (pv 0) (xa0 xb1 xa2))) (xd9 yn0 xb1 xb1))))
   (xa5 (xc2 (i := 5) xj2.nd rfl (Or.inl rfl) (xd9 xq9 (xd9 xq9 (pv 4) xb1) (xd9 xl9 (xa8 G_law_cell_at (hr.mono (by decide)) (by rfl) T.ey3 T.ew3.kp T.ex3 .nil xb4 (xa0 (pv 0) (xa0 xb1 xa2))) (xd9 yn0 xb1 xb1))))
   (xa5 (xc2 (i := 6) xj2.nd rfl (Or.inl rfl) (ye1 T.ej1 G_Part_init (hr.mono (by decide)) (by rfl) T.es4 T.eg1 T.eh1 xb4 (xa0 (yp9 (hu1 hr) (xk6 (xa0 (pv 2) (xa0 xe1 xa2))) (xd9 xq9 xb1 (xd9 xl9 (xa8 G_law_cell_at (hr.mono (by decide)) (by rfl) T.ey3 T.ew3.kp T.ex3 .nil xb4 (xa0 (pv 0) (xa0 xb1 xa2))) (xd9 yn0 xb1 xb1)))) (xa0 xh6 xa2))))
   (xa5 (xc2 (i := 7) xj2.nd rfl (Or.inl rfl) (xc1 (xa0 (ye1 T.ev1 G_Cue_init (hr.mono (by decide)) (by rfl) T.eb5 T.es1 T.et1 xb4 (xa0 (pv 4) (xa0 (xc1 (xa0 (pv 6) xa2)) xa2))) (xa0 (ye1 T.ev1 G_Cue_init (hr.mono (by decide)) (by rfl) T.eb5 T.es1 T.et1 xb4 (xa0 (pv 5) (xa0 (xc1 (xa0 (ye1 T.ej1 G_Part_init (hr.mono (by decide)) (by rfl) T.es4 T.eg1 T.eh1 xb4 (xa0 (yp9 (hu1 hr) (xk6 (xa0 (pv 2) (xa0 xe1 xa2))) xb1) (xa0 xh6 xa2))) xa2)) xa2))) xa2))))
   (xa5 (xc2 (i := 8) xj2.nd rfl (Or.inl rfl) (xc1 (xa0 xj5 (xa0 xj5 (xa0 xj5 (xa0 (pv 2) (xa0 (pv 5) xa2)))))))
   (xa5 (xg7 PassesOwn.never rfl (yz5 (by rfl) T.ew6 (xa0 (xb2 (ze7 rfl) (by rfl) T.ev6 boot_min (xa0 (xb2 (xj7 K) (by rfl) T.et6 PySem.boot_len (xa0 (pv 0) xa2)) (xa0 xb1 xa2))) xa2)) (xc3 (i := 9) xj2.nd rfl (Or.inl rfl)) (xa5 (xc2 (i := 10) xj2.nd rfl (Or.inl rfl) (xa8 G_law_drawn (hr.mono (by decide)) (by rfl) T.eb4 T.ez3.kp T.ea4 .nil xb4 (xa0 (pv 0) (xa0 (pv 9) xa2))))
   (xa5 (xc2 (i := 11) xj2.nd rfl (Or.inl rfl) (xc1 (xa0 (pv 2) (xa0 (pv 3) (xa0 (pv 2) xa2)))))
   (xa5 (xg8 (yb0 K PySem.F.plainAttrs_list PySem.F.slot_list_insert PySem.F.type_list_insert zb3 (pv 11) (xa0 (xd9 xl9 (pv 10) xb1) (xa0 (xa8 G_law_no_lamp (hr.mono (by decide)) (by rfl) T.eh4 T.ef4.kp T.eg4 .nil xb4 (xa0 (xd9 xu5 (pv 10) xb1) xa2)) xa2))))
   (xa5 (xe5 (xf1 (xe0 (xa8 G_law_both (hr.mono (by decide)) (by rfl) T.en4 T.el4.kp T.em4 .nil xb4 (xa0 (pv 7) (xa0 (pv 11) (xa0 (xc1 (xa0 xj5 (xa0 xj5 (xa0 xj5 xa2)))) xa2)))))) (xa6 (xc0 xj5)) xb7)
   (xa5 (xc2 (i := 12) xj2.nd rfl (Or.inl rfl) (xj4 (xd8 K) (xc1 (xa0 ya9 (xa0 (xf4 yf6 (by rfl) T.eo6 yd1 (xa0 (pv 7) xa2)) (xa0 (xd9 zb0 (pv 7) (xc1 (xa0 (xj4 (xd8 K) (pv 7) xb1 (fun _ _ => rfl)) xa2))) (xa0 (xd9 zb0 (pv 7) (xc1 (xa0 ya9 xa2))) (xa0 xe1 (xa0 xb1 (xa0 xh6 xa2)))))))) (xd9 xl9 (xd9 xu5 (pv 10) xb1) xb1) (fun _ _ => rfl)))
   (xa6 (xe5 (xf1 (xe0 (xa8 G_law_both (hr.mono (by decide)) (by rfl) T.en4 T.el4.kp T.em4 .nil xb4 (xa0 (pv 12) (xa0 (xj4 (xd8 K) (xc1 (xa0 (pv 11) (xa0 (xc1 (xa0 (pv 2) xa2)) xa2))) (xd9 xl9 (pv 10) xb1) (fun _ _ => rfl)) (xa0 (xc1 (xa0 xj5 (xa0 xj5 (xa0 xj5 xa2)))) xa2)))))) (xa6 (xc0 xj5)) xb7))))))))
   (xa5 (xg7 PassesOwn.never rfl (xf8 K (xc1 (xa0 ya9 (xa0 (pv 2) (xa0 (xk6 (xa0 (pv 2) xa2)) (xa0 xh6 (xa0 xb1 (xa0 xj5 (xa0 xe1 xa2))))))))) (xc3 (i := 13) xj2.nd rfl (Or.inl rfl)) (xa6 (xe5 (xf1 (xe0 (xa8 G_law_both (hr.mono (by decide)) (by rfl) T.en4 T.el4.kp T.em4 .nil xb4 (xa0 (pv 7) (xa0 (pv 13) (xa0 (xc1 (xa0 xj5 (xa0 xj5 (xa0 xj5 xa2)))) xa2)))))) (xa6 (xc0 xj5)) xb7)))
   (xa5 (xe5 (PW.pt (ym4 (xf1 (xe0 (xa8 G_law_both (hr.mono (by decide)) (by rfl) T.en4 T.el4.kp T.em4 .nil xb4 (xa0 (pv 7) (xa0 (xc1 (xa0 (pv 3) (xa0 (pv 2) (xa0 (pv 2) xa2)))) (xa0 (pv 8) xa2)))))) (xv9 (xf1 (xe0 (xa8 G_law_both (hr.mono (by decide)) (by rfl) T.en4 T.el4.kp T.em4 .nil xb4 (xa0 (pv 7) (xa0 (xc1 (xa0 (pv 2) xa2)) (xa0 (pv 8) xa2))))))))) (xa6 (xc0 xj5)) xb7)
   (xa5 (xc2 (i := 14) xj2.nd rfl (Or.inl rfl) (pe_makeX T.ez2 G_MovesBright_init (hr.mono (by decide)) (by rfl) T.em5 T.ey2 .nil xb4 (xa0 xe1 (xa0 xe1 (xa0 xb1 xa2)))))
   (xa5 (xe5 (PW.pt (ym4 (xf9 op_ne (za1 K (pv 14)) xe1 (xf2 _)) (xv9 (xf9 op_ne (za1 K (pv 14)) xb1 (xf2 _))))) (xa6 (xc0 xj5)) xb7)
   (xa6 (xc0 (xn1 (xk8 (za9 K hr.units) (xa8 G_wishes (hr.mono (by decide)) (by rfl) T.es3 T.eq3.kp T.er3 .nil xb4 (xa0 (pv 7) (xa0 (xc1 xa2) xa2))) (xc1 xa2) (xf2 _)) (xn1 (xk8 (za9 K hr.units) (xa8 G_wishes (hr.mono (by decide)) (by rfl) T.es3 T.eq3.kp T.er3 .nil xb4 (xa0 (pv 7) (xa0 (xc1 (xa0 (pv 3) xa2)) xa2))) (xc1 xa2) (xf2 _)) (xn6 (xk8 (za9 K hr.units) (xa8 G_wishes (hr.mono (by decide)) (by rfl) T.es3 T.eq3.kp T.er3 .nil xb4 (xa0 (xc1 xa2) (xa0 (xc1 (xa0 (pv 2) xa2)) xa2))) (xc1 xa2) (xf2 _)))))))))))))))))))), ?_⟩
  refine seq_cut5 (fun σ' H' => ∃ (f n1 n2 : Int), σ' = [some (.ref a), some (.int f), some (.str (xw9 0 f)), some (.str (xw9 1 f)), some (.int n1), some (.int n2), none, none, none, none, none, none, none, none, none] /\ H' = H /\ 1 <= n1 /\ n1 < n2 /\ n2 <= 1000000000) (fun N hN => ?_) ?_
  ·refine ⟨_, rfl, a, ns, 0, rfl, hS, by decide, fun f => ⟨_, rfl, 0, f, rfl, by decide, ⟨_, rfl, 1, f, rfl, by decide, ?_⟩⟩⟩
   refine ⟨_, rfl, a, ns, 1, rfl, hS, by decide, fun c1 => ⟨_, _, rfl, rfl, ⟨by decide, by decide, by decide, by decide⟩, _, _, rfl, rfl, (by show (0 : Int) < 10 ^ 8; decide), _, _, rfl, rfl, ?_⟩⟩
   refine ⟨_, rfl, _, _, rfl, rfl, _, rfl, a, ns, 2, rfl, hS, by decide, fun c2 => ⟨_, _, rfl, rfl, ⟨by decide, by decide, by decide, by decide⟩, _, _, rfl, rfl, (by show (0 : Int) < 10 ^ 8; decide), _, _, rfl, rfl, ?_⟩⟩
   have a0 : 0 <= c1 % 10 ^ Int.toNat 8 := Int.emod_nonneg _ (by decide)
   have a1 : c1 % 10 ^ Int.toNat 8 < 10 ^ Int.toNat 8 := Int.emod_lt_of_pos _ (by decide)
   have b0 : 0 <= c2 % 10 ^ Int.toNat 8 := Int.emod_nonneg _ (by decide)
   have b1 : c2 % 10 ^ Int.toNat 8 < 10 ^ Int.toNat 8 := Int.emod_lt_of_pos _ (by decide)
   have e8 : (10 : Int) ^ Int.toNat 8 = 100000000 := by decide
   generalize c1 % 10 ^ Int.toNat 8 = v1 at a0 a1 ⊢
   generalize c2 % 10 ^ Int.toNat 8 = v2 at b0 b1 ⊢
   rw [e8] at a1 b1
   exact hN _ _ ⟨f, _, _, rfl, rfl, by omega, by omega, by omega⟩
  rintro σ' H0 ⟨f, n1, n2, rfl, rfl, hn1, hn12, hn2⟩
  obtain ⟨hl0, hl1, hne⟩ := name_ok f
  generalize hz0 : xw9 0 f = lamp at hl0 hne ⊢
  generalize hz1 : xw9 1 f = other at hl1 hne ⊢
  refine xb8 (fun σ' H' => ∃ (p : Addr) (v : Int), σ' = [some (.ref a), some (.int f), some (.str lamp), some (.str other), some (.int n1), some (.int n2), some (.ref p), none, none, none, none, none, none, none, none] /\ Same H0 H' /\ yg1 A H' p [(xd1 lamp xb9, .int v)] /\ 1 <= v /\ v <= 1000000000) (fun N hN => ?_) ?_
  ·intro d1 h1
   refine ⟨_, rfl, (by show 2 <= 1000; decide), fun t ht => ⟨_, rfl, a, ns, 3, rfl, ((Same.new h1).trans (Same.new ht)).seq hS, by decide, fun c => ?_⟩⟩
   have s1 := (Same.new (o := HO.dT []) h1).trans (Same.new (o := HO.tup [V.str lamp, V.str xb9]) ht)
   have et : (upd (upd H0 d1 (HO.dT [])) t (HO.tup [V.str lamp, V.str xb9])) t = some (HO.tup [V.str lamp, V.str xb9]) := xa1
   have ed : (upd (upd H0 d1 (HO.dT [])) t (HO.tup [V.str lamp, V.str xb9])) d1 = some (HO.dT []) := (Same.new ht) _ _ xa1
   generalize upd (upd H0 d1 (HO.dT [])) t (HO.tup [V.str lamp, V.str xb9]) = G1 at s1 et ed ⊢
   refine ⟨_, _, rfl, rfl, ⟨by decide, by decide, by decide, by decide⟩, _, _, rfl, rfl, (by show (0 : Int) < 10 ^ 9; decide), _, _, rfl, rfl, xd1 lamp xb9, t, rfl, et, ed, fun d2 h2 x dx nx ndx nex => ?_⟩
   have c0 : 0 <= c % 10 ^ Int.toNat 9 := Int.emod_nonneg _ (by decide)
   have c1 : c % 10 ^ Int.toNat 9 < 10 ^ Int.toNat 9 := Int.emod_lt_of_pos _ (by decide)
   have e9 : (10 : Int) ^ Int.toNat 9 = 1000000000 := by decide
   generalize c % 10 ^ Int.toNat 9 = v at c0 c1 h2 nx ndx nex ⊢
   rw [e9] at c1
   have nd : H0 d1 = none := h1
   have s2 : Same H0 (upd G1 d1 (.dT [(xd1 lamp xb9, .int (1 + v))])) := s1.upd nd
   have g1 : (upd G1 d1 (.dT [(xd1 lamp xb9, .int (1 + v))])) d1 = some (.dT [(xd1 lamp xb9, .int (1 + v))]) := xa1
   generalize upd G1 d1 (.dT [(xd1 lamp xb9, .int (1 + v))]) = G2 at s2 g1 h2 nx ndx nex ⊢
   have s3 := Same.new (o := HO.dT []) h2
   have g1' := s3 _ _ g1
   have g2 : (upd G2 d2 (HO.dT [])) d2 = some (HO.dT []) := xa1
   generalize upd G2 d2 (HO.dT []) = G3 at s3 g1' g2 nx ndx nex ⊢
   have sD : Same G3 (upd (upd G3 dx (.own x)) x (.ins A.ea3 dx [])) := (Same.new ndx).upd nx
   refine ⟨x, dx, d1, d2, _, rfl, xa1, sD _ _ g1', sD _ _ g2, xq3 hl0 xy9 (by omega) (by omega), fun H5 hP hk5 => ⟨rfl, hN _ _ ⟨x, 1 + v, rfl, (s2.trans s3).trans (ye9 nx ndx hk5), hP, by omega, by omega⟩⟩⟩
  rintro σ' H1 ⟨p, v, rfl, s1, hp, hv1, hv2⟩
  refine xb8 (fun σ' H' => ∃ (C c1 c2 : Addr), σ' = [some (.ref a), some (.int f), some (.str lamp), some (.str other), some (.int n1), some (.int n2), some (.ref p), some (.ref C), none, none, none, none, none, none, none] /\ Same H1 H' /\ H' C = some (.lst [.ref c1, .ref c2]) /\ xo1 A H' [c1, c2] (twoU lamp n1 n2 v)) (fun N hN => ?_) ?_
  ·refine ⟨_, rfl, _, rfl, (by show 1 <= 1000; decide), fun l1 hl1' c1 dc1 nc1 ndc1 nec1 => ?_⟩
   have sA := Same.new (o := HO.lst [V.ref p]) hl1'
   have eA : (upd H1 l1 (HO.lst [V.ref p])) l1 = some (HO.lst [V.ref p]) := xa1
   generalize upd H1 l1 (HO.lst [V.ref p]) = G1 at sA eA nc1 ndc1 nec1 ⊢
   have sB : Same G1 (upd (upd G1 dc1 (.own c1)) c1 (.ins A.eb3 dc1 [])) := (Same.new ndc1).upd nc1
   refine ⟨c1, dc1, l1, p, n1, _, rfl, xa1, hn1, by omega, sB _ _ eA, (hp.keep sA).keep sB, xq3 hl0 xy9 hv1 hv2, fun G2 hC1 hk1 => ⟨rfl, ?_⟩⟩
   have sC : Same H1 G2 := sA.trans (ye9 nc1 ndc1 hk1)
   refine ⟨_, rfl, fun d1 h1 => ⟨_, rfl, (by show 2 <= 1000; decide), fun t ht => ?_⟩⟩
   have sE := (Same.new (o := HO.dT []) h1).trans (Same.new (o := HO.tup [V.str lamp, V.str redT]) ht)
   have et : (upd (upd G2 d1 (HO.dT [])) t (HO.tup [V.str lamp, V.str redT])) t = some (HO.tup [V.str lamp, V.str redT]) := xa1
   have ed : (upd (upd G2 d1 (HO.dT [])) t (HO.tup [V.str lamp, V.str redT])) d1 = some (HO.dT []) := (Same.new ht) _ _ xa1
   generalize upd (upd G2 d1 (HO.dT [])) t (HO.tup [V.str lamp, V.str redT]) = G3 at sE et ed ⊢
   refine ⟨xd1 lamp redT, t, rfl, et, ed, fun d2 h2 x dx nx ndx nex => ?_⟩
   have s2 : Same G2 (upd G3 d1 (.dT [(xd1 lamp redT, .int 5)])) := sE.upd h1
   have g1 : (upd G3 d1 (.dT [(xd1 lamp redT, .int 5)])) d1 = some (.dT [(xd1 lamp redT, .int 5)]) := xa1
   generalize upd G3 d1 (.dT [(xd1 lamp redT, .int 5)]) = G4 at s2 g1 h2 nx ndx nex ⊢
   have s3 := Same.new (o := HO.dT []) h2
   have g1' := s3 _ _ g1
   have g2 : (upd G4 d2 (HO.dT [])) d2 = some (HO.dT []) := xa1
   generalize upd G4 d2 (HO.dT []) = G5 at s3 g1' g2 nx ndx nex ⊢
   have sD : Same G5 (upd (upd G5 dx (.own x)) x (.ins A.ea3 dx [])) := (Same.new ndx).upd nx
   refine ⟨x, dx, d1, d2, _, rfl, xa1, sD _ _ g1', sD _ _ g2, xq3 hl0 yp4 (by decide) (by decide), fun G6 hP hk5 => ⟨rfl, (by show 1 <= 1000; decide), fun l2 hl2 c2 dc2 nc2 ndc2 nec2 => ?_⟩⟩
   have s6 : Same G2 G6 := (s2.trans s3).trans (ye9 nx ndx hk5)
   have sF := Same.new (o := HO.lst [V.ref x]) hl2
   have eF : (upd G6 l2 (HO.lst [V.ref x])) l2 = some (HO.lst [V.ref x]) := xa1
   generalize upd G6 l2 (HO.lst [V.ref x]) = G7 at sF eF nc2 ndc2 nec2 ⊢
   have sG : Same G7 (upd (upd G7 dc2 (.own c2)) c2 (.ins A.eb3 dc2 [])) := (Same.new ndc2).upd nc2
   refine ⟨c2, dc2, l2, x, n2, _, rfl, xa1, by omega, hn2, sG _ _ eF, (hP.keep sF).keep sG, xq3 hl0 yp4 (by decide) (by decide), fun G8 hC2 hk2 => ⟨rfl, (by show 2 <= 1000; decide), fun C hC => ?_⟩⟩
   have s8 : Same G2 G8 := (s6.trans sF).trans (ye9 nc2 ndc2 hk2)
   have sH := Same.new (o := HO.lst [V.ref c1, V.ref c2]) hC
   exact hN _ _ ⟨C, c1, c2, rfl, (sC.trans s8).trans sH, xa1, .cons (hC1.keep (s8.trans sH)) (.cons (hC2.keep sH) .nil)⟩
  rintro σ' H2 ⟨C, c1, c2, rfl, s2, hC, hcs⟩
  have hS2 := s2.seq (s1.seq hS)
  have hri : xh9 (twoU lamp n1 n2 v) := by simp [xh9, twoU]; exact hn12
  refine xb8 (fun σ' H' => ∃ B, σ' = [some (.ref a), some (.int f), some (.str lamp), some (.str other), some (.int n1), some (.int n2), some (.ref p), some (.ref C), some (.ref B), none, none, none, none, none, none] /\ Same H2 H' /\ H' B = some (.lst [.bl false, .bl false, .bl true, .str lamp, .int n2])) (fun N hN => ?_) ?_
  ·exact ⟨_, rfl, _, rfl, (by show 5 <= 1000; decide), fun B hB => hN _ _ ⟨B, rfl, Same.new hB, xa1⟩⟩
  rintro σ' H3 ⟨B, rfl, s3, hB⟩
  have rfN : ∀ {G : Hp} {y : V}, Same H2 G -> Ls K G y false -> Rf K A G (.ref C) y [.bl false, .bl true, .bl false] := fun s h => .non C _ [c1, c2] _ (s _ _ hC) (by show 2 <= 100; decide) (hcs.keep s) hri h
  refine xb8 (fun σ' H' => ∃ v9 v10 v11 v12, σ' = [some (.ref a), some (.int f), some (.str lamp), some (.str other), some (.int n1), some (.int n2), some (.ref p), some (.ref C), some (.ref B), v9, v10, v11, v12, none, none] /\ Same H3 H') (fun N hN => ?_) ?_
  ·refine ⟨_, rfl, a, _, rfl, .inl (s3.seq hS2), _, _, rfl, ?_⟩
   generalize hm : (if (24 : Int) < ((ns.map V.int).length : Int) then (24 : Int) else ((ns.map V.int).length : Int)) = m
   have hm0 : 0 <= m /\ m <= 24 /\ m <= ns.length := by
    rw [List.length_map] at hm
    split at hm <;> omega
   refine ⟨_, rfl, by omega, by omega, ?_⟩
   refine xy0 (n := m.toNat) (fun i σ' H' => ∃ v9 v10 v11 v12, σ' = [some (.ref a), some (.int f), some (.str lamp), some (.str other), some (.int n1), some (.int n2), some (.ref p), some (.ref C), some (.ref B), v9, v10, v11, v12, none, none] /\ Same H3 H') ⟨_, _, _, _, rfl, Same.refl _⟩ ?_ ?_
   ·rintro i σ' H4 hi ⟨v9, v10, v11, v12, rfl, s4⟩
    have s24 := s3.trans s4
    refine yd5 (fun σ' H' => ∃ (n : Int) (M : Addr), σ' = [some (.ref a), some (.int f), some (.str lamp), some (.str other), some (.int n1), some (.int n2), some (.ref p), some (.ref C), some (.ref B), some (.int (0 + (i : Int))), some (.int n), some (.ref M), v12, none, none] /\ Same H4 H' /\ Ls K H' (.ref M) false) (fun N2 hN2 => ?_) ?_
    ·refine ⟨_, rfl, _, rfl, a, ns, i, by rw [Int.zero_add]; rfl, s24.seq hS2, by omega, hlen, fun n hn0 => ?_⟩
     refine ⟨_, rfl, _, rfl, _, rfl, (by show 3 <= 1000; decide), fun M hM => ?_⟩
     have sM := Same.new (o := HO.lst [V.str lamp, V.str other, V.str lamp]) hM
     have eM : (upd H4 M (HO.lst [V.str lamp, V.str other, V.str lamp])) M = some (HO.lst [V.str lamp, V.str other, V.str lamp]) := xa1
     generalize upd H4 M (HO.lst [V.str lamp, V.str other, V.str lamp]) = G1 at sM eM ⊢
     have j0 := Int.emod_nonneg n (show (4 : Int) ≠ 0 by decide)
     have j1 := Int.emod_lt_of_pos n (show (0 : Int) < 4 by decide)
     refine ⟨_, rfl, .inl ⟨rfl, _, SqL.of eM⟩, _, rfl, _, _, rfl, rfl, (by show (0 : Int) < 4; decide), _, rfl, _, _, rfl, rfl, ⟨by decide, by decide⟩, _, rfl, fun y G2 sy hy => ?_⟩
     refine ⟨M, _, n % 4, y, rfl, rfl, sy _ _ eM, j0, (by show n % 4 <= 3; omega), (by show 3 <= 1000; decide), hN2 _ _ ⟨n, M, rfl, (sM.trans sy).upd hM, ?_⟩⟩
     have lg : ∀ {G : Hp} {z : Str}, xk9 z = true -> Lm K G (.str z) true := fun {G z} h => by
      have := Lm.str (K := K) (H := G) z (xk4 h)
      rwa [h] at this
     have ky : ∀ xs, Lm K (upd G2 M (.lst xs)) y false := fun xs => by
      generalize hb : false = b at hy
      cases hy with
      | str z h => exact .str z h
      | other _ t ty h => exact .other y t (ty_put ty (sy _ _ eM)) h
     generalize hj : (n % 4).toNat = j
     have hj3 : j <= 3 := by omega
     refine .item M _ j y xa1 ?_ (ky _) fun i' x hi' hx => ?_
     ·rw [List.getElem?_append_right (by rw [List.length_take]; show min j 3 <= j; omega), List.length_take]
      show (y :: _)[j - min j 3]? = some y
      rw [show j - min j 3 = 0 by omega]; rfl
     ·rw [List.getElem?_append_left (by rw [List.length_take]; show i' < min j 3; omega), List.getElem?_take] at hx
      rw [if_pos hi'] at hx
      have := List.mem_of_getElem? hx
      simp only [List.mem_cons, List.not_mem_nil, or_false] at this
      rcases this with rfl | rfl | rfl
      ·exact lg hl0
      ·exact lg hl1
      ·exact lg hl0
    rintro σ' H5 ⟨n, M, rfl, s5, hls⟩
    have s25 := s24.trans s5
    refine xb8 (fun σ' H' => σ' = [some (.ref a), some (.int f), some (.str lamp), some (.str other), some (.int n1), some (.int n2), some (.ref p), some (.ref C), some (.ref B), some (.int (0 + (i : Int))), some (.int n), some (.ref M), v12, none, none] /\ Same H5 H') (fun N2 hN2 => ?_) ?_
    ·refine ⟨_, rfl, _, rfl, (by show 3 <= 1000; decide), fun R hR => ?_⟩
     have sR := Same.new (o := HO.lst [V.bl false, V.bl true, V.bl false]) hR
     exact ⟨_, _, R, _, rfl, rfN (s25.trans sR) (hls.keep sR), xa1, fun G sG => ⟨_, rfl, iteF (hN2 _ _ ⟨rfl, sR.trans sG⟩)⟩⟩
    rintro σ' H6 ⟨rfl, s6⟩
    have s26 := s25.trans s6
    refine xb8 (fun σ' H' => ∃ x, σ' = [some (.ref a), some (.int f), some (.str lamp), some (.str other), some (.int n1), some (.int n2), some (.ref p), some (.ref C), some (.ref B), some (.int (0 + (i : Int))), some (.int n), some (.ref M), some x, none, none] /\ Same H6 H' /\ NoL K A H' x) (fun N2 hN2 => ?_) ?_
    ·have hC6 := s26 _ _ hC
     refine ⟨_, rfl, C, _, rfl, .inl ⟨SqL.of hC6, fun T1 hT1 => ?_⟩⟩
     have t1 := Same.new (o := HO.tup [V.ref c1, V.ref c2]) hT1
     have u1 : (upd H6 T1 (HO.tup [V.ref c1, V.ref c2])) T1 = some (HO.tup [V.ref c1, V.ref c2]) := xa1
     generalize upd H6 T1 (HO.tup [V.ref c1, V.ref c2]) = G1 at t1 u1 ⊢
     refine ⟨_, rfl, _, rfl, C, _, _, _, rfl, rfl, SqL.of (t1 _ _ hC6), atI_0 _ _, (by show 1 <= 1000; decide), fun L1 hL1 => ?_⟩
     have t2 := Same.new (o := HO.lst [V.ref c1]) hL1
     have u2 : (upd G1 L1 (HO.lst [V.ref c1])) L1 = some (HO.lst [V.ref c1]) := xa1
     generalize upd G1 L1 (HO.lst [V.ref c1]) = G2 at t2 u2 ⊢
     refine ⟨C, L1, _, _, rfl, rfl, t2 _ _ (t1 _ _ hC6), u2, xd7 (by show 2 + 1 <= 1000; decide), fun CC hCC => ?_⟩
     have t3 := Same.new (o := HO.lst ([V.ref c1, V.ref c2] ++ [V.ref c1])) hCC
     have u3 : (upd G2 CC (HO.lst ([V.ref c1, V.ref c2] ++ [V.ref c1]))) CC = some (HO.lst ([V.ref c1, V.ref c2] ++ [V.ref c1])) := xa1
     generalize upd G2 CC (HO.lst ([V.ref c1, V.ref c2] ++ [V.ref c1])) = G3 at t3 u3 ⊢
     refine ⟨_, rfl, (by show 1 <= 1000; decide), fun N1 hN1 => ?_⟩
     have t4 := Same.new (o := HO.lst [V.non]) hN1
     have u4 : (upd G3 N1 (HO.lst [V.non])) N1 = some (HO.lst [V.non]) := xa1
     generalize upd G3 N1 (HO.lst [V.non]) = G4 at t4 u4 ⊢
     have st4 := ((t1.trans t2).trans t3).trans t4
     refine ⟨C, N1, _, _, rfl, rfl, st4 _ _ hC6, u4, xd7 (by show 2 + 1 <= 1000; decide), fun CN hCN => ?_⟩
     have t5 := Same.new (o := HO.lst ([V.ref c1, V.ref c2] ++ [V.non])) hCN
     have u5 : (upd G4 CN (HO.lst ([V.ref c1, V.ref c2] ++ [V.non]))) CN = some (HO.lst ([V.ref c1, V.ref c2] ++ [V.non])) := xa1
     generalize upd G4 CN (HO.lst ([V.ref c1, V.ref c2] ++ [V.non])) = G5 at t5 u5 ⊢
     intro d0 hd0
     have t6 := Same.new (o := HO.dT []) hd0
     have u6 : (upd G5 d0 (HO.dT [])) d0 = some (HO.dT []) := xa1
     generalize upd G5 d0 (HO.dT []) = G6 at t6 u6 ⊢
     refine ⟨(by show 7 <= 1000; decide), fun Ls' hLs => ?_⟩
     generalize hys : [V.non, V.ref T1, V.ref CC, V.ref CN, V.str (Str.ofString ""), V.int 5, V.ref d0] = ys
     have t7 := Same.new (o := HO.lst ys) hLs
     have u7 : (upd G6 Ls' (HO.lst ys)) Ls' = some (HO.lst ys) := xa1
     generalize upd G6 Ls' (HO.lst ys) = G7 at t7 u7 ⊢
     have s67 := t6.trans t7
     have s57 := t5.trans s67
     have st7 := st4.trans s57
     have cs7 := (hcs.keep s26).keep st7
     have cs7' : xo1 A G7 ([c1, c2] ++ [c1]) (twoU lamp n1 n2 v ++ [⟨n1, [(xd1 lamp xb9, .int v)]⟩]) := by
      cases cs7 with
      | cons q t => cases t with
       | cons q2 t2 => cases t2; exact .cons q (.cons q2 (.cons q .nil))
     have nri : ¬ xh9 (twoU lamp n1 n2 v ++ [⟨n1, [(xd1 lamp xb9, .int v)]⟩]) := fun h => by
      simp [xh9, twoU] at h
     obtain ⟨x, hx, hat⟩ := menu7 (P := NoL K A G7) (x0 := V.non) (x1 := V.ref T1) (x2 := V.ref CC) (x3 := V.ref CN) (x4 := V.str (Str.ofString "")) (x5 := V.int 5) (x6 := V.ref d0) (Int.emod_nonneg (n / 44) (show (7 : Int) ≠ 0 by decide)) (Int.emod_lt_of_pos (n / 44) (show (0 : Int) < 7 by decide))
      (.other _ "NoneType" .non kit_nl) (.other _ "tuple" (.tup (s57 _ _ (t4 _ _ (t3 _ _ (t2 _ _ u1))))) kit_tl)
      (.fall CC ([c1, c2] ++ [c1]) _ (s57 _ _ (t4 _ _ u3)) (by show 3 <= 800; decide) cs7' nri)
      (.item CN [c1, c2] _ (s67 _ _ u5) (by show 2 <= 800; decide) cs7)
      (.other _ "str" (.str _) zb7) (.other _ "int" (.int _) kit_il) (.other _ "dict" (.dT (t7 _ _ u6)) kit_dl)
     rw [hys] at hat
     exact ⟨_, rfl, _, _, rfl, rfl, ⟨by decide, by decide⟩, _, _, rfl, rfl, (by show (0 : Int) < 7; decide), Ls', _, _, _, rfl, rfl, SqL.of u7, hat, hN2 _ _ ⟨x, rfl, st7, hx⟩⟩
    rintro σ' H7 ⟨x, rfl, s7, hx⟩
    refine ⟨_, rfl, _, rfl, _, rfl, (by show 1 <= 1000; decide), fun L1 hL1 => ⟨(by show 2 <= 1000; decide), fun L2 hL2 => ?_⟩⟩
    have t1 := Same.new (o := HO.lst [V.str lamp]) hL1
    have t2 := Same.new (o := HO.lst [V.ref M, V.ref L1]) hL2
    have u2 : (upd (upd H7 L1 (HO.lst [V.str lamp])) L2 (HO.lst [V.ref M, V.ref L1])) L2 = some (HO.lst [V.ref M, V.ref L1]) := xa1
    have t12 := t1.trans t2
    generalize upd (upd H7 L1 (HO.lst [V.str lamp])) L2 (HO.lst [V.ref M, V.ref L1]) = G2 at t12 u2 ⊢
    obtain ⟨y, _, hat⟩ := menu2 (P := fun _ => True) (x0 := V.ref M) (x1 := V.ref L1) (Int.emod_nonneg n (show (2 : Int) ≠ 0 by decide)) (Int.emod_lt_of_pos n (show (0 : Int) < 2 by decide)) trivial trivial
    refine ⟨_, rfl, _, _, rfl, rfl, (by show (0 : Int) < 2; decide), L2, _, _, _, rfl, rfl, SqL.of u2, hat, (by show 3 <= 1000; decide), fun R hR => ?_⟩
    have sR := Same.new (o := HO.lst [V.bl true, V.bl false, V.bl false]) hR
    exact ⟨_, _, R, _, rfl, .nol x y (hx.keep (t12.trans sR)), xa1, fun G sG => ⟨_, rfl, iteF ⟨_, _, _, _, rfl, ((((s4.trans s5).trans s6).trans s7).trans (t12.trans sR)).trans sG⟩⟩⟩
   ·rintro σ' H4 ⟨v9, v10, v11, v12, rfl, s4⟩
    exact hN _ _ ⟨v9, v10, v11, v12, rfl, s4⟩
  rintro σ' H4 ⟨v9, v10, v11, v12, rfl, s4⟩
  refine xb8 (fun σ' H' => ∃ v13, σ' = [some (.ref a), some (.int f), some (.str lamp), some (.str other), some (.int n1), some (.int n2), some (.ref p), some (.ref C), some (.ref B), v9, v10, v11, v12, v13, none] /\ Same H4 H') (fun N hN => ?_) ?_
  ·refine ⟨_, rfl, _, rfl, (by show 1 <= 1000; decide), fun t ht => fun d0 hd0 => ⟨(by show 7 <= 1000; decide), fun R hR => ⟨R, rfl, ⟨_, SqL.of xa1⟩, ?_⟩⟩⟩
   have t1 := Same.new (o := HO.tup [V.str lamp]) ht
   have t2 := Same.new (o := HO.dT []) hd0
   have u1 : (upd (upd H4 t (HO.tup [V.str lamp])) d0 (HO.dT [])) t = some (HO.tup [V.str lamp]) := t2 _ _ xa1
   have u2 : (upd (upd H4 t (HO.tup [V.str lamp])) d0 (HO.dT [])) d0 = some (HO.dT []) := xa1
   have t12 := t1.trans t2
   generalize upd (upd H4 t (HO.tup [V.str lamp])) d0 (HO.dT []) = G2 at t12 u1 u2 hR ⊢
   generalize hxs : [V.non, V.str lamp, V.ref t, V.ref d0, V.int 5, V.bl true, V.str (Str.ofString "")] = xs
   have t3 := Same.new (o := HO.lst xs) hR
   have u3 : (upd G2 R (HO.lst xs)) R = some (HO.lst xs) := xa1
   generalize upd G2 R (HO.lst xs) = G3 at t3 u3 ⊢
   have all : ∀ x ∈ xs, Ls K G3 x false := by
    intro x hx
    rw [<- hxs] at hx
    simp only [List.mem_cons, List.not_mem_nil, or_false] at hx
    rcases hx with rfl | rfl | rfl | rfl | rfl | rfl | rfl
    ·exact .other _ "NoneType" .non kit_nl
    ·exact .other _ "str" (.str _) zb7
    ·exact .other _ "tuple" (.tup (t3 _ _ u1)) kit_tl
    ·exact .other _ "dict" (.dT (t3 _ _ u2)) kit_dl
    ·exact .other _ "int" (.int _) kit_il
    ·exact .other _ "bool" (.bl _) kit_bl
    ·exact .other _ "str" (.str _) zb7
   refine xh7 (xs := xs) (fun _ σ' H' => ∃ v13, σ' = [some (.ref a), some (.int f), some (.str lamp), some (.str other), some (.int n1), some (.int n2), some (.ref p), some (.ref C), some (.ref B), v9, v10, v11, v12, v13, none] /\ Same G3 H') ⟨_, rfl, Same.refl _⟩ ?_ ?_ ?_
   ·rintro i σ' G _ ⟨_, _, sm⟩
    exact SqL.of (sm _ _ u3)
   ·rintro i x σ' G hx ⟨_, rfl, sm⟩
    refine ⟨_, rfl, _, rfl, (by show 3 <= 1000; decide), fun R2 hR2 => ?_⟩
    have sR := Same.new (o := HO.lst [V.bl false, V.bl true, V.bl false]) hR2
    have sGR := sm.trans sR
    exact ⟨_, _, R2, _, rfl, rfN ((s3.trans s4).trans ((t12.trans t3).trans sGR)) ((all x (List.mem_of_getElem? hx)).keep sGR), xa1, fun G4 sG => ⟨_, rfl, iteF ⟨_, rfl, sGR.trans sG⟩⟩⟩
   ·rintro σ' G ⟨v13, rfl, sm⟩
    exact hN _ _ ⟨v13, rfl, (t12.trans t3).trans sm⟩
  rintro σ' H5 ⟨v13, rfl, s5⟩
  have s25 := (s3.trans s4).trans s5
  have rfB : ∀ {G : Hp} {M : Addr} {zs : List Str}, Same H2 G -> G M = some (.lst (zs.map V.str)) -> zs.length <= 50 -> (∀ z ∈ zs, xk9 z = true /\ z.length <= 1000) -> lamp ∈ zs -> Rf K A G (.ref C) (.ref M) [.bl false, .bl false, .bl true, .str lamp, .int n2] := fun s hM hz hzs hin => .brt C _ c1 c2 lamp n1 n2 v _ (s _ _ hC) (hcs.keep s) hn1 hn12 hM hz hzs hin
  refine xb8 (fun σ' H' => σ' = [some (.ref a), some (.int f), some (.str lamp), some (.str other), some (.int n1), some (.int n2), some (.ref p), some (.ref C), some (.ref B), v9, v10, v11, v12, v13, none] /\ Same H5 H') (fun N hN => ?_) ?_
  ·refine ⟨_, rfl, _, rfl, _, rfl, _, rfl, (by show 3 <= 1000; decide), fun M hM => ?_⟩
   have t1 := Same.new (o := HO.lst [V.str other, V.str lamp, V.str lamp]) hM
   refine ⟨_, rfl, _, _, B, _, rfl, rfB (zs := [other, lamp, lamp]) (s25.trans t1) xa1 (by show 3 <= 50; decide) ?_ (by simp), (t1 _ _ (s5 _ _ (s4 _ _ hB))), fun G sG => ⟨_, rfl, iteF ?_⟩⟩
   ·intro z hz
    simp only [List.mem_cons, List.not_mem_nil, or_false] at hz
    rcases hz with rfl | rfl | rfl
    ·exact ⟨hl1, xk4 hl1⟩
    ·exact ⟨hl0, xk4 hl0⟩
    ·exact ⟨hl0, xk4 hl0⟩
   have t1G := t1.trans sG
   refine ⟨_, rfl, _, rfl, (by show 1 <= 1000; decide), fun M2 hM2 => ?_⟩
   have t2 := Same.new (o := HO.lst [V.str lamp]) hM2
   refine ⟨_, rfl, _, _, B, _, rfl, rfB (zs := [lamp]) (s25.trans (t1G.trans t2)) xa1 (by show 1 <= 50; decide) (fun z hz => ?_) (by simp), ((t1G.trans t2) _ _ (s5 _ _ (s4 _ _ hB))), fun G2 sG2 => ⟨_, rfl, iteF (hN _ _ ⟨rfl, (t1G.trans t2).trans sG2⟩)⟩⟩
   obtain rfl := List.mem_singleton.mp hz
   exact ⟨hl0, xk4 hl0⟩
  rintro σ' H6 ⟨rfl, s6⟩
  refine xq5 (fun σ' H' => ∃ v14, σ' = [some (.ref a), some (.int f), some (.str lamp), some (.str other), some (.int n1), some (.int n2), some (.ref p), some (.ref C), some (.ref B), v9, v10, v11, v12, v13, v14] /\ Same H6 H') (fun N hN => ?_) ?_
  ·refine ⟨(by show 3 <= 1000; decide), fun ea hea => ⟨ea, _, _, _, rfl, xa1, fun dx G ndx h1 h2 ho => ⟨rfl, ?_⟩⟩⟩
   have sG : Same H6 G := fun b o e => ho b o (xa7 e hea) (by rw [xa3 (xa7 e hea)]; exact e)
   refine ⟨_, rfl, _, _, _, _, _, rfl, h1, h2, T.ed6, T.eb3, T.ec3, rfl, rfl, _, rfl, iteF ?_⟩
   exact ⟨_, rfl, _, _, _, _, _, rfl, h1, h2, T.ed6, T.eb3, T.ed3, rfl, rfl, _, rfl, iteF (hN _ _ ⟨_, rfl, sG⟩)⟩
  rintro σ' H7 ⟨v14, rfl, s7⟩
  have s27 := (s25.trans s6).trans s7
  have hn1' : ∀ u ∈ twoU lamp n1 n2 v, 1 <= u.n := fun u hu => by
   simp only [twoU, List.mem_cons, List.not_mem_nil, or_false] at hu
   rcases hu with rfl | rfl
   ·exact hn1
   ·show 1 <= n2; omega
  refine ⟨_, rfl, by decide, fun M hM => ?_⟩
  have t1 := Same.new (o := HO.lst []) hM
  refine ⟨C, M, [c1, c2], _, [], rfl, t1 _ _ (s27 _ _ hC), (by show 2 <= 100; decide), (hcs.keep s27).keep t1, hri, hn1', xa1, (by show 0 <= 50; decide), (by simp), (by simp), fun F G sG hF => ⟨by decide, fun E1 hE1 => ?_⟩⟩
  have t2 := Same.new (o := HO.lst []) hE1
  refine ⟨F, E1, [], rfl, rfl, SqL.of (t2 _ _ hF), SqL.of xa1, _, rfl, iteT ?_⟩
  have sA := (t1.trans sG).trans t2
  generalize upd G E1 (HO.lst []) = G1 at sA ⊢
  refine ⟨_, rfl, _, rfl, (by show 1 <= 1000; decide), fun M2 hM2 => ?_⟩
  have t3 := Same.new (o := HO.lst [V.str other]) hM2
  have sB := sA.trans t3
  refine ⟨C, M2, [c1, c2], _, [other], rfl, sB _ _ (s27 _ _ hC), (by show 2 <= 100; decide), (hcs.keep s27).keep sB, hri, hn1', xa1, (by show 1 <= 50; decide), (fun z hz => ?_), (fun z hz i hi => ?_), fun F G sG hF => ⟨by decide, fun E2 hE2 => ?_⟩⟩
  ·obtain rfl := List.mem_singleton.mp hz; exact ⟨hl1, xk4 hl1⟩
  ·obtain rfl := List.mem_singleton.mp hz; exact yj3 (fun e => hne e.symm) i hi
  have t4 := Same.new (o := HO.lst []) hE2
  refine ⟨F, E2, [], rfl, rfl, SqL.of (t4 _ _ hF), SqL.of xa1, _, rfl, iteT ?_⟩
  generalize upd G E2 (HO.lst []) = G2
  refine ⟨by decide, fun L0 hL0 => ⟨_, rfl, (by show 1 <= 1000; decide), fun M3 hM3 => ?_⟩⟩
  have t5 := Same.new (o := HO.lst [V.str lamp]) hM3
  refine ⟨L0, M3, [], [], [lamp], rfl, t5 _ _ xa1, (by show 0 <= 100; decide), .nil, .nil, (by simp), xa1, (by show 1 <= 50; decide), (fun z hz => ?_), (fun z hz i hi => absurd hi (Nat.not_lt_zero _)), fun F G sG hF => ⟨by decide, fun E3 hE3 => ?_⟩⟩
  ·obtain rfl := List.mem_singleton.mp hz; exact ⟨hl0, xk4 hl0⟩
  exact ⟨F, E3, [], rfl, rfl, SqL.of ((Same.new hE3) _ _ hF), SqL.of xa1, k _⟩
theorem all_mk {l : PySem.W.OpenLaw} {w : World} {K : Frag} {h : Heap} {mg : Str -> Option Value} (X : K.In h) (G : h.Ns mainGlobals mg) {C_MovesBright : Addr} {C_NoName : Addr} {C_NoList : Addr} {C_LampError : Addr} {C_Cue : Addr} {C_Part : Addr} {fa : Addr} {f0 : Addr} {od0 an0 : Option Addr} {sl0 : Array (Option Value)} {oc0 kV0 dc0 pm0 cd0 ct0 : Value} {f1 : Addr} {od1 an1 : Option Addr} {sl1 : Array (Option Value)} {oc1 kV1 dc1 pm1 cd1 ct1 : Value} {f2 : Addr} {od2 an2 : Option Addr} {sl2 : Array (Option Value)} {oc2 kV2 dc2 pm2 cd2 ct2 : Value} {f3 : Addr} {od3 an3 : Option Addr} {sl3 : Array (Option Value)} {oc3 kV3 dc3 pm3 cd3 ct3 : Value} {f4 : Addr} {od4 an4 : Option Addr} {sl4 : Array (Option Value)} {oc4 kV4 dc4 pm4 cd4 ct4 : Value} {f5 : Addr} {od5 an5 : Option Addr} {sl5 : Array (Option Value)} {oc5 kV5 dc5 pm5 cd5 ct5 : Value} {f6 : Addr} {od6 an6 : Option Addr} {sl6 : Array (Option Value)} {oc6 kV6 dc6 pm6 cd6 ct6 : Value} {f7 : Addr} {od7 an7 : Option Addr} {sl7 : Array (Option Value)} {oc7 kV7 dc7 pm7 cd7 ct7 : Value} {f8 : Addr} {od8 an8 : Option Addr} {sl8 : Array (Option Value)} {oc8 kV8 dc8 pm8 cd8 ct8 : Value} {f9 : Addr} {od9 an9 : Option Addr} {sl9 : Array (Option Value)} {oc9 kV9 dc9 pm9 cd9 ct9 : Value} {f10 : Addr} {od10 an10 : Option Addr} {sl10 : Array (Option Value)} {oc10 kV10 dc10 pm10 cd10 ct10 : Value} {T10 : Addr} {tc10 : Value} {td10 : Option Addr} {tn10 : Nat} {tsl10 : Array (Option Value)} {tk10_0 tk10_1 tk10_2 : Tok} {f11 : Addr} {od11 an11 : Option Addr} {sl11 : Array (Option Value)} {oc11 kV11 dc11 pm11 cd11 ct11 : Value} {f12 : Addr} {od12 an12 : Option Addr} {sl12 : Array (Option Value)} {oc12 kV12 dc12 pm12 cd12 ct12 : Value} {f13 : Addr} {od13 an13 : Option Addr} {sl13 : Array (Option Value)} {oc13 kV13 dc13 pm13 cd13 ct13 : Value} {T13 : Addr} {tc13 : Value} {td13 : Option Addr} {tn13 : Nat} {tsl13 : Array (Option Value)} {f14 : Addr} {od14 an14 : Option Addr} {sl14 : Array (Option Value)} {oc14 kV14 dc14 pm14 cd14 ct14 : Value} {f15 : Addr} {od15 an15 : Option Addr} {sl15 : Array (Option Value)} {oc15 kV15 dc15 pm15 cd15 ct15 : Value} {f16 : Addr} {od16 an16 : Option Addr} {sl16 : Array (Option Value)} {oc16 kV16 dc16 pm16 cd16 ct16 : Value} {f17 : Addr} {od17 an17 : Option Addr} {sl17 : Array (Option Value)} {oc17 kV17 dc17 pm17 cd17 ct17 : Value} {f18 : Addr} {od18 an18 : Option Addr} {sl18 : Array (Option Value)} {oc18 kV18 dc18 pm18 cd18 ct18 : Value} {f19 : Addr} {od19 an19 : Option Addr} {sl19 : Array (Option Value)} {oc19 kV19 dc19 pm19 cd19 ct19 : Value} {f20 : Addr} {od20 an20 : Option Addr} {sl20 : Array (Option Value)} {oc20 kV20 dc20 pm20 cd20 ct20 : Value} {f21 : Addr} {od21 an21 : Option Addr} {sl21 : Array (Option Value)} {oc21 kV21 dc21 pm21 cd21 ct21 : Value} {f22 : Addr} {od22 an22 : Option Addr} {sl22 : Array (Option Value)} {oc22 kV22 dc22 pm22 cd22 ct22 : Value} {f23 : Addr} {od23 an23 : Option Addr} {sl23 : Array (Option Value)} {oc23 kV23 dc23 pm23 cd23 ct23 : Value} {f24 : Addr} {od24 an24 : Option Addr} {sl24 : Array (Option Value)} {oc24 kV24 dc24 pm24 cd24 ct24 : Value} {f25 : Addr} {od25 an25 : Option Addr} {sl25 : Array (Option Value)} {oc25 kV25 dc25 pm25 cd25 ct25 : Value} {f26 : Addr} {od26 an26 : Option Addr} {sl26 : Array (Option Value)} {oc26 kV26 dc26 pm26 cd26 ct26 : Value} {f27 : Addr} {od27 an27 : Option Addr} {sl27 : Array (Option Value)} {oc27 kV27 dc27 pm27 cd27 ct27 : Value} {f28 : Addr} {od28 an28 : Option Addr} {sl28 : Array (Option Value)} {oc28 kV28 dc28 pm28 cd28 ct28 : Value} {f29 : Addr} {od29 an29 : Option Addr} {sl29 : Array (Option Value)} {oc29 kV29 dc29 pm29 cd29 ct29 : Value} {f30 : Addr} {od30 an30 : Option Addr} {sl30 : Array (Option Value)} {oc30 kV30 dc30 pm30 cd30 ct30 : Value} {f31 : Addr} {od31 an31 : Option Addr} {sl31 : Array (Option Value)} {oc31 kV31 dc31 pm31 cd31 ct31 : Value} {f32 : Addr} {od32 an32 : Option Addr} {sl32 : Array (Option Value)} {oc32 kV32 dc32 pm32 cd32 ct32 : Value} {f33 : Addr} {od33 an33 : Option Addr} {sl33 : Array (Option Value)} {oc33 kV33 dc33 pm33 cd33 ct33 : Value} {f34 : Addr} {od34 an34 : Option Addr} {sl34 : Array (Option Value)} {oc34 kV34 dc34 pm34 cd34 ct34 : Value} {f35 : Addr} {od35 an35 : Option Addr} {sl35 : Array (Option Value)} {oc35 kV35 dc35 pm35 cd35 ct35 : Value} {f36 : Addr} {od36 an36 : Option Addr} {sl36 : Array (Option Value)} {oc36 kV36 dc36 pm36 cd36 ct36 : Value} {nm_MovesBright qn_MovesBright : _} {N_MovesBright : _} {bs_MovesBright hx_MovesBright sn_MovesBright sub_MovesBright ab_MovesBright col_MovesBright dd_MovesBright k0_MovesBright k1_MovesBright k2_MovesBright k3_MovesBright k5_MovesBright : _} {nm_LampError qn_LampError : _} {N_LampError : _} {bs_LampError hx_LampError sn_LampError sub_LampError ab_LampError col_LampError dd_LampError k0_LampError k1_LampError k2_LampError k3_LampError k5_LampError : _} {tkc_MOST_TICKS : Tok} {tkc_LETTERS : Tok} {tkc_MOST_LETTERS : Tok} {tkc_MOST_WORTH : Tok} {tkc_MOST_NUMBER : Tok} {tkc_MOST_PARTS : Tok} {S_SIDES : Addr} {so_SIDES : Option Addr} {sn_SIDES : Nat} {ss_SIDES : Array (Option Value)} {sk_SIDES_0 sk_SIDES_1 sk_SIDES_2 sk_SIDES_3 sk_SIDES_4 sk_SIDES_5 : Tok} (hfa : mg "law" = some (.ref fa))
  (aC_LampError : nsIn K mainGlobals "LampError" = some (some (.ref C_LampError)))
  (aC_NoList : nsIn K mainGlobals "NoList" = some (some (.ref C_NoList)))
  (aC_NoName : nsIn K mainGlobals "NoName" = some (some (.ref C_NoName)))
  (aC_MovesBright : nsIn K mainGlobals "MovesBright" = some (some (.ref C_MovesBright)))
  (aC_Part : nsIn K mainGlobals "Part" = some (some (.ref C_Part)))
  (aC_Cue : nsIn K mainGlobals "Cue" = some (some (.ref C_Cue)))
  (a0 : nsIn K mainGlobals "is_whole" = some (some (.ref f0)))
  (l0 : K.lookup f0 = some ⟨oc0, od0, .func (fnOf "is_whole" "is_whole" (xb3 xi9) (xa9 xi9) (xa4 xi9) .none kV0 dc0 pm0 an0 cd0 ct0), sl0⟩)
  (c0 : codeIn K cd0 "is_whole" = true)
  (k0 : keepIn K (.ref f0) = true)
  (a1 : nsIn K mainGlobals "is_time" = some (some (.ref f1)))
  (l1 : K.lookup f1 = some ⟨oc1, od1, .func (fnOf "is_time" "is_time" (xb3 xl2) (xa9 xl2) (xa4 xl2) .none kV1 dc1 pm1 an1 cd1 ct1), sl1⟩)
  (c1 : codeIn K cd1 "is_time" = true)
  (k1 : keepIn K (.ref f1) = true)
  (a2 : nsIn K mainGlobals "is_lamp" = some (some (.ref f2)))
  (l2 : K.lookup f2 = some ⟨oc2, od2, .func (fnOf "is_lamp" "is_lamp" (xb3 xl5) (xa9 xl5) (xa4 xl5) .none kV2 dc2 pm2 an2 cd2 ct2), sl2⟩)
  (c2 : codeIn K cd2 "is_lamp" = true)
  (k2 : keepIn K (.ref f2) = true)
  (a3 : nsIn K mainGlobals "is_side" = some (some (.ref f3)))
  (l3 : K.lookup f3 = some ⟨oc3, od3, .func (fnOf "is_side" "is_side" (xb3 xl4) (xa9 xl4) (xa4 xl4) .none kV3 dc3 pm3 an3 cd3 ct3), sl3⟩)
  (c3 : codeIn K cd3 "is_side" = true)
  (k3 : keepIn K (.ref f3) = true)
  (a4 : nsIn K mainGlobals "is_slot" = some (some (.ref f4)))
  (l4 : K.lookup f4 = some ⟨oc4, od4, .func (fnOf "is_slot" "is_slot" (xb3 xl3) (xa9 xl3) (xa4 xl3) .none kV4 dc4 pm4 an4 cd4 ct4), sl4⟩)
  (c4 : codeIn K cd4 "is_slot" = true)
  (k4 : keepIn K (.ref f4) = true)
  (a5 : nsIn K mainGlobals "is_bright" = some (some (.ref f5)))
  (l5 : K.lookup f5 = some ⟨oc5, od5, .func (fnOf "is_bright" "is_bright" (xb3 xh3) (xa9 xh3) (xa4 xh3) .none kV5 dc5 pm5 an5 cd5 ct5), sl5⟩)
  (c5 : codeIn K cd5 "is_bright" = true)
  (k5 : keepIn K (.ref f5) = true)
  (a6 : nsIn K mainGlobals "is_worth" = some (some (.ref f6)))
  (l6 : K.lookup f6 = some ⟨oc6, od6, .func (fnOf "is_worth" "is_worth" (xb3 xi8) (xa9 xi8) (xa4 xi8) .none kV6 dc6 pm6 an6 cd6 ct6), sl6⟩)
  (c6 : codeIn K cd6 "is_worth" = true)
  (k6 : keepIn K (.ref f6) = true)
  (a7 : nsIn K mainGlobals "refuse_worth" = some (some (.ref f7)))
  (l7 : K.lookup f7 = some ⟨oc7, od7, .func (fnOf "refuse_worth" "refuse_worth" (xb3 xe7) (xa9 xe7) (xa4 xe7) .none kV7 dc7 pm7 an7 cd7 ct7), sl7⟩)
  (c7 : codeIn K cd7 "refuse_worth" = true)
  (k7 : keepIn K (.ref f7) = true)
  (a8 : nsIn K mainGlobals "is_cue_number" = some (some (.ref f8)))
  (l8 : K.lookup f8 = some ⟨oc8, od8, .func (fnOf "is_cue_number" "is_cue_number" (xb3 xe2) (xa9 xe2) (xa4 xe2) .none kV8 dc8 pm8 an8 cd8 ct8), sl8⟩)
  (c8 : codeIn K cd8 "is_cue_number" = true)
  (k8 : keepIn K (.ref f8) = true)
  (a9 : nsIn K mainGlobals "has_slots_as_keys" = some (some (.ref f9)))
  (l9 : K.lookup f9 = some ⟨oc9, od9, .func (fnOf "has_slots_as_keys" "has_slots_as_keys" (xb3 xc6) (xa9 xc6) (xa4 xc6) .none kV9 dc9 pm9 an9 cd9 ct9), sl9⟩)
  (c9 : codeIn K cd9 "has_slots_as_keys" = true)
  (k9 : keepIn K (.ref f9) = true)
  (a10 : findIn K (.ref C_Part) "__init__" = some (some (.ref f10)))
  (i10 : isFn K (.ref f10) = true)
  (l10 : K.lookup f10 = some ⟨oc10, od10, .func (fnOf "__init__" "Part.__init__" (xb3 xh4) (xa9 xh4) (xa4 xh4) (.ref T10) kV10 dc10 pm10 an10 cd10 ct10), sl10⟩)
  (c10 : codeIn K cd10 "Part.__init__" = true)
  (k10 : keepIn K (.ref f10) = true)
  (t10 : K.lookup T10 = some ⟨tc10, td10, .seq ([.int 0 tk10_0, .int 0 tk10_1, .int 0 tk10_2] : List Value).toArray tn10, tsl10⟩)
  (a11 : findIn K (.ref C_Part) "told_slots" = some (some (.ref f11)))
  (i11 : isFn K (.ref f11) = true)
  (l11 : K.lookup f11 = some ⟨oc11, od11, .func (fnOf "told_slots" "Part.told_slots" (xb3 xd2) (xa9 xd2) (xa4 xd2) .none kV11 dc11 pm11 an11 cd11 ct11), sl11⟩)
  (c11 : codeIn K cd11 "Part.told_slots" = true)
  (k11 : keepIn K (.ref f11) = true)
  (a12 : nsIn K mainGlobals "is_part_list" = some (some (.ref f12)))
  (l12 : K.lookup f12 = some ⟨oc12, od12, .func (fnOf "is_part_list" "is_part_list" (xb3 xe9) (xa9 xe9) (xa4 xe9) .none kV12 dc12 pm12 an12 cd12 ct12), sl12⟩)
  (c12 : codeIn K cd12 "is_part_list" = true)
  (k12 : keepIn K (.ref f12) = true)
  (a13 : findIn K (.ref C_Cue) "__init__" = some (some (.ref f13)))
  (i13 : isFn K (.ref f13) = true)
  (l13 : K.lookup f13 = some ⟨oc13, od13, .func (fnOf "__init__" "Cue.__init__" (xb3 xj1) (xa9 xj1) (xa4 xj1) (.ref T13) kV13 dc13 pm13 an13 cd13 ct13), sl13⟩)
  (c13 : codeIn K cd13 "Cue.__init__" = true)
  (k13 : keepIn K (.ref f13) = true)
  (t13 : K.lookup T13 = some ⟨tc13, td13, .seq ([.bool false, .none] : List Value).toArray tn13, tsl13⟩)
  (a14 : nsIn K mainGlobals "cue_list" = some (some (.ref f14)))
  (l14 : K.lookup f14 = some ⟨oc14, od14, .func (fnOf "cue_list" "cue_list" (xb3 xj0) (xa9 xj0) (xa4 xj0) .none kV14 dc14 pm14 an14 cd14 ct14), sl14⟩)
  (c14 : codeIn K cd14 "cue_list" = true)
  (k14 : keepIn K (.ref f14) = true)
  (a15 : nsIn K mainGlobals "checked" = some (some (.ref f15)))
  (l15 : K.lookup f15 = some ⟨oc15, od15, .func (fnOf "checked" "checked" (xb3 xl7) (xa9 xl7) (xa4 xl7) .none kV15 dc15 pm15 an15 cd15 ct15), sl15⟩)
  (c15 : codeIn K cd15 "checked" = true)
  (k15 : keepIn K (.ref f15) = true)
  (a16 : nsIn K mainGlobals "put_in" = some (some (.ref f16)))
  (l16 : K.lookup f16 = some ⟨oc16, od16, .func (fnOf "put_in" "put_in" (xb3 xo3) (xa9 xo3) (xa4 xo3) .none kV16 dc16 pm16 an16 cd16 ct16), sl16⟩)
  (c16 : codeIn K cd16 "put_in" = true)
  (k16 : keepIn K (.ref f16) = true)
  (a17 : nsIn K mainGlobals "carried" = some (some (.ref f17)))
  (l17 : K.lookup f17 = some ⟨oc17, od17, .func (fnOf "carried" "carried" (xb3 xl8) (xa9 xl8) (xa4 xl8) .none kV17 dc17 pm17 an17 cd17 ct17), sl17⟩)
  (c17 : codeIn K cd17 "carried" = true)
  (k17 : keepIn K (.ref f17) = true)
  (a18 : nsIn K mainGlobals "cue_at" = some (some (.ref f18)))
  (l18 : K.lookup f18 = some ⟨oc18, od18, .func (fnOf "cue_at" "cue_at" (xb3 xo4) (xa9 xo4) (xa4 xo4) .none kV18 dc18 pm18 an18 cd18 ct18), sl18⟩)
  (c18 : codeIn K cd18 "cue_at" = true)
  (k18 : keepIn K (.ref f18) = true)
  (a19 : nsIn K mainGlobals "shown" = some (some (.ref f19)))
  (l19 : K.lookup f19 = some ⟨oc19, od19, .func (fnOf "shown" "shown" (xb3 xs7) (xa9 xs7) (xa4 xs7) .none kV19 dc19 pm19 an19 cd19 ct19), sl19⟩)
  (c19 : codeIn K cd19 "shown" = true)
  (k19 : keepIn K (.ref f19) = true)
  (a20 : nsIn K mainGlobals "looks_of" = some (some (.ref f20)))
  (l20 : K.lookup f20 = some ⟨oc20, od20, .func (fnOf "looks_of" "looks_of" (xb3 xi5) (xa9 xi5) (xa4 xi5) .none kV20 dc20 pm20 an20 cd20 ct20), sl20⟩)
  (c20 : codeIn K cd20 "looks_of" = true)
  (k20 : keepIn K (.ref f20) = true)
  (a21 : nsIn K mainGlobals "refuse_name" = some (some (.ref f21)))
  (l21 : K.lookup f21 = some ⟨oc21, od21, .func (fnOf "refuse_name" "refuse_name" (xb3 xf6) (xa9 xf6) (xa4 xf6) .none kV21 dc21 pm21 an21 cd21 ct21), sl21⟩)
  (c21 : codeIn K cd21 "refuse_name" = true)
  (k21 : keepIn K (.ref f21) = true)
  (a22 : nsIn K mainGlobals "refuse_lamps" = some (some (.ref f22)))
  (l22 : K.lookup f22 = some ⟨oc22, od22, .func (fnOf "refuse_lamps" "refuse_lamps" (xb3 xe8) (xa9 xe8) (xa4 xe8) .none kV22 dc22 pm22 an22 cd22 ct22), sl22⟩)
  (c22 : codeIn K cd22 "refuse_lamps" = true)
  (k22 : keepIn K (.ref f22) = true)
  (a23 : findIn K (.ref C_MovesBright) "__init__" = some (some (.ref f23)))
  (i23 : isFn K (.ref f23) = true)
  (l23 : K.lookup f23 = some ⟨oc23, od23, .func (fnOf "__init__" "MovesBright.__init__" (xb3 xc9) (xa9 xc9) (xa4 xc9) .none kV23 dc23 pm23 an23 cd23 ct23), sl23⟩)
  (c23 : codeIn K cd23 "MovesBright.__init__" = true)
  (k23 : keepIn K (.ref f23) = true)
  (a24 : nsIn K mainGlobals "is_dark" = some (some (.ref f24)))
  (l24 : K.lookup f24 = some ⟨oc24, od24, .func (fnOf "is_dark" "is_dark" (xb3 xl6) (xa9 xl6) (xa4 xl6) .none kV24 dc24 pm24 an24 cd24 ct24), sl24⟩)
  (c24 : codeIn K cd24 "is_dark" = true)
  (k24 : keepIn K (.ref f24) = true)
  (a25 : nsIn K mainGlobals "is_moving" = some (some (.ref f25)))
  (l25 : K.lookup f25 = some ⟨oc25, od25, .func (fnOf "is_moving" "is_moving" (xb3 xh2) (xa9 xh2) (xa4 xh2) .none kV25 dc25 pm25 an25 cd25 ct25), sl25⟩)
  (c25 : codeIn K cd25 "is_moving" = true)
  (k25 : keepIn K (.ref f25) = true)
  (a26 : nsIn K mainGlobals "stance_of" = some (some (.ref f26)))
  (l26 : K.lookup f26 = some ⟨oc26, od26, .func (fnOf "stance_of" "stance_of" (xb3 xh0) (xa9 xh0) (xa4 xh0) .none kV26 dc26 pm26 an26 cd26 ct26), sl26⟩)
  (c26 : codeIn K cd26 "stance_of" = true)
  (k26 : keepIn K (.ref f26) = true)
  (a27 : nsIn K mainGlobals "wishes_of" = some (some (.ref f27)))
  (l27 : K.lookup f27 = some ⟨oc27, od27, .func (fnOf "wishes_of" "wishes_of" (xb3 xg9) (xa9 xg9) (xa4 xg9) .none kV27 dc27 pm27 an27 cd27 ct27), sl27⟩)
  (c27 : codeIn K cd27 "wishes_of" = true)
  (k27 : keepIn K (.ref f27) = true)
  (a28 : nsIn K mainGlobals "wishes" = some (some (.ref f28)))
  (l28 : K.lookup f28 = some ⟨oc28, od28, .func (fnOf "wishes" "wishes" (xb3 xo2) (xa9 xo2) (xa4 xo2) .none kV28 dc28 pm28 an28 cd28 ct28), sl28⟩)
  (c28 : codeIn K cd28 "wishes" = true)
  (k28 : keepIn K (.ref f28) = true)
  (a29 : nsIn K mainGlobals "moved_dark" = some (some (.ref f29)))
  (l29 : K.lookup f29 = some ⟨oc29, od29, .func (fnOf "moved_dark" "moved_dark" (xb3 xg5) (xa9 xg5) (xa4 xg5) .none kV29 dc29 pm29 an29 cd29 ct29), sl29⟩)
  (c29 : codeIn K cd29 "moved_dark" = true)
  (k29 : keepIn K (.ref f29) = true)
  (a30 : nsIn K mainGlobals "_law_cell_at" = some (some (.ref f30)))
  (l30 : K.lookup f30 = some ⟨oc30, od30, .func (fnOf "_law_cell_at" "_law_cell_at" (xb3 xf7) (xa9 xf7) (xa4 xf7) .none kV30 dc30 pm30 an30 cd30 ct30), sl30⟩)
  (c30 : codeIn K cd30 "_law_cell_at" = true)
  (k30 : keepIn K (.ref f30) = true)
  (a31 : nsIn K mainGlobals "_law_drawn" = some (some (.ref f31)))
  (l31 : K.lookup f31 = some ⟨oc31, od31, .func (fnOf "_law_drawn" "_law_drawn" (xb3 xh1) (xa9 xh1) (xa4 xh1) .none kV31 dc31 pm31 an31 cd31 ct31), sl31⟩)
  (c31 : codeIn K cd31 "_law_drawn" = true)
  (k31 : keepIn K (.ref f31) = true)
  (a32 : nsIn K mainGlobals "_law_name" = some (some (.ref f32)))
  (l32 : K.lookup f32 = some ⟨oc32, od32, .func (fnOf "_law_name" "_law_name" (xb3 xi6) (xa9 xi6) (xa4 xi6) .none kV32 dc32 pm32 an32 cd32 ct32), sl32⟩)
  (c32 : codeIn K cd32 "_law_name" = true)
  (k32 : keepIn K (.ref f32) = true)
  (a33 : nsIn K mainGlobals "_law_no_lamp" = some (some (.ref f33)))
  (l33 : K.lookup f33 = some ⟨oc33, od33, .func (fnOf "_law_no_lamp" "_law_no_lamp" (xb3 xc7) (xa9 xc7) (xa4 xc7) .none kV33 dc33 pm33 an33 cd33 ct33), sl33⟩)
  (c33 : codeIn K cd33 "_law_no_lamp" = true)
  (k33 : keepIn K (.ref f33) = true)
  (a34 : nsIn K mainGlobals "_law_truths" = some (some (.ref f34)))
  (l34 : K.lookup f34 = some ⟨oc34, od34, .func (fnOf "_law_truths" "_law_truths" (xb3 xg6) (xa9 xg6) (xa4 xg6) .none kV34 dc34 pm34 an34 cd34 ct34), sl34⟩)
  (c34 : codeIn K cd34 "_law_truths" = true)
  (k34 : keepIn K (.ref f34) = true)
  (a35 : nsIn K mainGlobals "_law_both" = some (some (.ref f35)))
  (l35 : K.lookup f35 = some ⟨oc35, od35, .func (fnOf "_law_both" "_law_both" (xb3 xi7) (xa9 xi7) (xa4 xi7) .none kV35 dc35 pm35 an35 cd35 ct35), sl35⟩)
  (c35 : codeIn K cd35 "_law_both" = true)
  (k35 : keepIn K (.ref f35) = true)
  (a36 : nsIn K mainGlobals "law" = some (some (.ref f36)))
  (l36 : K.lookup f36 = some ⟨oc36, od36, .func (fnOf "law" "law" (xb3 yt3) (xa9 yt3) (xa4 yt3) .none kV36 dc36 pm36 an36 cd36 ct36), sl36⟩)
  (c36 : codeIn K cd36 "law" = true)
  (k36 : keepIn K (.ref f36) = true)
  (pg_Part : plainGet K C_Part Str.empty = true)
  (hd_Part : hasDictIn K C_Part = true)
  (po_Part : plainOver K C_Part = true)
  (sa_Part : findIn K (.ref C_Part) "__setattr__" = some (some (.builtin "object.__setattr__")))
  (mk_Part : makesIn K C_Part = true)
  (kc_Part : keepIn K (.ref C_Part) = true)
  (na_Part_tells : findIn K (.ref C_Part) "tells" = some none)
  (na_Part_alone : findIn K (.ref C_Part) "alone" = some none)
  (na_Part_rise : findIn K (.ref C_Part) "rise" = some none)
  (na_Part_fall : findIn K (.ref C_Part) "fall" = some none)
  (na_Part_wait : findIn K (.ref C_Part) "wait" = some none)
  (yc_Part : findIn K (.ref C_Part) "__class__" = some (some (.builtin "object.__class__")))
  (ym_Part : mroIn K C_Part (.type "object") = some true)
  (xk_own_Part : kitOne K (.ref C_Part) (.ref C_Part) = some true)
  (pg_Cue : plainGet K C_Cue Str.empty = true)
  (hd_Cue : hasDictIn K C_Cue = true)
  (po_Cue : plainOver K C_Cue = true)
  (sa_Cue : findIn K (.ref C_Cue) "__setattr__" = some (some (.builtin "object.__setattr__")))
  (mk_Cue : makesIn K C_Cue = true)
  (kc_Cue : keepIn K (.ref C_Cue) = true)
  (na_Cue_number : findIn K (.ref C_Cue) "number" = some none)
  (na_Cue_parts : findIn K (.ref C_Cue) "parts" = some none)
  (na_Cue_stops : findIn K (.ref C_Cue) "stops" = some none)
  (na_Cue_follow : findIn K (.ref C_Cue) "follow" = some none)
  (yc_Cue : findIn K (.ref C_Cue) "__class__" = some (some (.builtin "object.__class__")))
  (ym_Cue : mroIn K C_Cue (.type "object") = some true)
  (xk_own_Cue : kitOne K (.ref C_Cue) (.ref C_Cue) = some true)
  (xk_non_Cue : kitOne K (.type "NoneType") (.ref C_Cue) = some false)
  (x_NoList : excIn K C_NoList xn3 "ValueError.__new__" = true)
  (xc0_NoList : findIn K (.ref C_NoList) "__getattribute__" = some (some (.builtin "BaseException.__getattribute__")))
  (xc1_NoList : findIn K (.ref C_NoList) "__getattr__" = some none)
  (xc2_NoList : findIn K (.ref C_NoList) "__class__" = some (some (.builtin "object.__class__")))
  (xc3_NoList : mroIn K C_NoList (.type "object") = some true)
  (xc4_NoList : mroIn K C_NoList (.type "BaseException") = some true)
  (xm_NoList : exmOne K (.ref C_NoList) (.ref C_LampError) = some true)
  (xv_NoList : kitOne K (.ref C_NoList) (.type "ValueError") = some true)
  (xk_NoList_LampError : kitOne K (.ref C_NoList) (.ref C_LampError) = some true)
  (xk_NoList_NoList : kitOne K (.ref C_NoList) (.ref C_NoList) = some true)
  (xk_NoList_NoName : kitOne K (.ref C_NoList) (.ref C_NoName) = some false)
  (xk_NoList_MovesBright : kitOne K (.ref C_NoList) (.ref C_MovesBright) = some false)
  (x_NoName : excIn K C_NoName xn3 "ValueError.__new__" = true)
  (xc0_NoName : findIn K (.ref C_NoName) "__getattribute__" = some (some (.builtin "BaseException.__getattribute__")))
  (xc1_NoName : findIn K (.ref C_NoName) "__getattr__" = some none)
  (xc2_NoName : findIn K (.ref C_NoName) "__class__" = some (some (.builtin "object.__class__")))
  (xc3_NoName : mroIn K C_NoName (.type "object") = some true)
  (xc4_NoName : mroIn K C_NoName (.type "BaseException") = some true)
  (xm_NoName : exmOne K (.ref C_NoName) (.ref C_LampError) = some true)
  (xv_NoName : kitOne K (.ref C_NoName) (.type "ValueError") = some true)
  (xk_NoName_LampError : kitOne K (.ref C_NoName) (.ref C_LampError) = some true)
  (xk_NoName_NoList : kitOne K (.ref C_NoName) (.ref C_NoList) = some false)
  (xk_NoName_NoName : kitOne K (.ref C_NoName) (.ref C_NoName) = some true)
  (xk_NoName_MovesBright : kitOne K (.ref C_NoName) (.ref C_MovesBright) = some false)
  (xc0_MovesBright : findIn K (.ref C_MovesBright) "__getattribute__" = some (some (.builtin "BaseException.__getattribute__")))
  (xc1_MovesBright : findIn K (.ref C_MovesBright) "__getattr__" = some none)
  (xc2_MovesBright : findIn K (.ref C_MovesBright) "__class__" = some (some (.builtin "object.__class__")))
  (xc3_MovesBright : mroIn K C_MovesBright (.type "object") = some true)
  (xc4_MovesBright : mroIn K C_MovesBright (.type "BaseException") = some true)
  (xm_MovesBright : exmOne K (.ref C_MovesBright) (.ref C_LampError) = some true)
  (xv_MovesBright : kitOne K (.ref C_MovesBright) (.type "ValueError") = some true)
  (xk_MovesBright_LampError : kitOne K (.ref C_MovesBright) (.ref C_LampError) = some true)
  (xk_MovesBright_NoList : kitOne K (.ref C_MovesBright) (.ref C_NoList) = some false)
  (xk_MovesBright_NoName : kitOne K (.ref C_MovesBright) (.ref C_NoName) = some false)
  (xk_MovesBright_MovesBright : kitOne K (.ref C_MovesBright) (.ref C_MovesBright) = some true)
  (x_LampError : excIn K C_LampError xn3 "ValueError.__new__" = true)
  (lx_MovesBright : K.lookup C_MovesBright = some (excClassObj nm_MovesBright qn_MovesBright C_MovesBright N_MovesBright bs_MovesBright (.ref C_LampError :: xn3) hx_MovesBright sn_MovesBright sub_MovesBright ab_MovesBright col_MovesBright dd_MovesBright k0_MovesBright k1_MovesBright k2_MovesBright k3_MovesBright k5_MovesBright "ValueError.__new__"))
  (lx_LampError : K.lookup C_LampError = some (excClassObj nm_LampError qn_LampError C_LampError N_LampError bs_LampError xn3 hx_LampError sn_LampError sub_LampError ab_LampError col_LampError dd_LampError k0_LampError k1_LampError k2_LampError k3_LampError k5_LampError "ValueError.__new__"))
  (kp_MovesBright : keepIn K (.ref C_MovesBright) = true)
  (sa_MovesBright : findIn K (.ref C_MovesBright) "__setattr__" = some (some (.builtin "object.__setattr__")))
  (hd_MovesBright : hasDictIn K C_MovesBright = true)
  (nr_MovesBright_lamp : findIn K (.ref C_MovesBright) "lamp" = some none)
  (nr_MovesBright_number : findIn K (.ref C_MovesBright) "number" = some none)
  (u0_LampError : specialIn K (.ref C_LampError) "__getattribute__" = some (some (.builtin "type.__getattribute__")))
  (u1_LampError : readsIn K C_LampError (.type "type") = true)
  (u2_LampError : findCls K (.ref C_LampError) (.type "type") "__init__" = some (.val (.builtin "ValueError.__init__")))
  (xg_get : specialIn K (.builtin "object.__class__") "__get__" = some (some (.builtin "getset_descriptor.__get__")))
  (xg_set : takesIn K (.builtin "object.__class__") = some true)
  (z_isinstance : nsIn K mainGlobals "isinstance" = some none)
  (z_int : nsIn K mainGlobals "int" = some none)
  (z_bool : nsIn K mainGlobals "bool" = some none)
  (z_str : nsIn K mainGlobals "str" = some none)
  (z_tuple : nsIn K mainGlobals "tuple" = some none)
  (z_list : nsIn K mainGlobals "list" = some none)
  (z_dict : nsIn K mainGlobals "dict" = some none)
  (z_set : nsIn K mainGlobals "set" = some none)
  (z_sorted : nsIn K mainGlobals "sorted" = some none)
  (z_len : nsIn K mainGlobals "len" = some none)
  (z_all : nsIn K mainGlobals "all" = some none)
  (z_min : nsIn K mainGlobals "min" = some none)
  (z_range : nsIn K mainGlobals "range" = some none)
  (z_enumerate : nsIn K mainGlobals "enumerate" = some none)
  (z_ValueError : nsIn K mainGlobals "ValueError" = some none)
  (gc_MOST_TICKS : nsIn K mainGlobals "MOST_TICKS" = some (some (.int 1000000000 tkc_MOST_TICKS)))
  (gc_LETTERS : nsIn K mainGlobals "LETTERS" = some (some (.str "abcdefghijklmnopqrstuvwxyz" tkc_LETTERS)))
  (gc_MOST_LETTERS : nsIn K mainGlobals "MOST_LETTERS" = some (some (.int 8 tkc_MOST_LETTERS)))
  (gc_MOST_WORTH : nsIn K mainGlobals "MOST_WORTH" = some (some (.int 1000000000 tkc_MOST_WORTH)))
  (gc_MOST_NUMBER : nsIn K mainGlobals "MOST_NUMBER" = some (some (.int 1000000000 tkc_MOST_NUMBER)))
  (gc_MOST_PARTS : nsIn K mainGlobals "MOST_PARTS" = some (some (.int 9 tkc_MOST_PARTS)))
  (gs_SIDES : nsIn K mainGlobals "SIDES" = some (some (.ref S_SIDES)))
  (ls_SIDES : K.lookup S_SIDES = some ⟨.type "tuple", so_SIDES, .seq ([.str "blue" sk_SIDES_0, .str "bright" sk_SIDES_1, .str "green" sk_SIDES_2, .str "pan" sk_SIDES_3, .str "red" sk_SIDES_4, .str "tilt" sk_SIDES_5] : List Value).toArray sn_SIDES, ss_SIDES⟩) :
  ∃ fd : FuncData, (∀ (s : Shared) (v : Value), BindsTo s fd ⟨[v], []⟩ [("_law_script", v)]) /\ ∀ base : Heap, K.In base -> base.Ns mainGlobals mg -> FnOk l.prog w K mg base (CXE l.prog w) 10 fa fd ["_law_script"] (spLaw K) := by
 have e := hfa.symm.trans (mg_of X G a36)
 cases e
 have F0 := xc8 (st := xi9) l0 c0 k0
 have bb0 := F0.binds (ps := ["thing"]) fun _ _ _ _ _ _ us hl => match us, hl with | [_], _ => rfl
 have F1 := xc8 (st := xl2) l1 c1 k1
 have bb1 := F1.binds (ps := ["thing"]) fun _ _ _ _ _ _ us hl => match us, hl with | [_], _ => rfl
 have F2 := xc8 (st := xl5) l2 c2 k2
 have bb2 := F2.binds (ps := ["thing"]) fun _ _ _ _ _ _ us hl => match us, hl with | [_], _ => rfl
 have F3 := xc8 (st := xl4) l3 c3 k3
 have bb3 := F3.binds (ps := ["thing"]) fun _ _ _ _ _ _ us hl => match us, hl with | [_], _ => rfl
 have F4 := xc8 (st := xl3) l4 c4 k4
 have bb4 := F4.binds (ps := ["thing"]) fun _ _ _ _ _ _ us hl => match us, hl with | [_], _ => rfl
 have F5 := xc8 (st := xh3) l5 c5 k5
 have bb5 := F5.binds (ps := ["slot"]) fun _ _ _ _ _ _ us hl => match us, hl with | [_], _ => rfl
 have F6 := xc8 (st := xi8) l6 c6 k6
 have bb6 := F6.binds (ps := ["thing"]) fun _ _ _ _ _ _ us hl => match us, hl with | [_], _ => rfl
 have F7 := xc8 (st := xe7) l7 c7 k7
 have bb7 := F7.binds (ps := ["thing"]) fun _ _ _ _ _ _ us hl => match us, hl with | [_], _ => rfl
 have F8 := xc8 (st := xe2) l8 c8 k8
 have bb8 := F8.binds (ps := ["thing"]) fun _ _ _ _ _ _ us hl => match us, hl with | [_], _ => rfl
 have F9 := xc8 (st := xc6) l9 c9 k9
 have bb9 := F9.binds (ps := ["thing"]) fun _ _ _ _ _ _ us hl => match us, hl with | [_], _ => rfl
 have F10 := zd0 (st := xh4) l10 c10 k10
 have bb10 : xc5 K _ ["self", "tells", "alone", "rise", "fall", "wait"] [] := FunD.binds (ds := []) 6 rfl F10 t10 fun _ _ _ _ _ _ us hl => match us, hl with | [_, _, _, _, _, _], _ => ⟨_, rfl, rfl⟩
 have bd10 : xc5 K _ ["self", "tells", "alone", "rise", "fall", "wait"] [.int 0 tk10_0, .int 0 tk10_1, .int 0 tk10_2] := FunD.binds 3 rfl F10 t10 fun _ _ _ _ _ _ us hl => match us, hl with | [_, _, _], _ => ⟨_, rfl, rfl⟩
 have kb10 : KBinds K _ ["self", "tells", "alone", "rise", "fall", "wait"] ["rise", "fall", "wait"] (gAB 3 3) (gAB 3 3) := FunD.kbinds 3 3 (by decide) F10 t10 (fun _ _ _ _ _ _ us ws h1 h2 => match us, h1, ws, h2 with | [_, _, _], _, [_, _, _], _ => ⟨_, rfl, rfl⟩)
 have F11 := xc8 (st := xd2) l11 c11 k11
 have bb11 := F11.binds (ps := ["self"]) fun _ _ _ _ _ _ us hl => match us, hl with | [_], _ => rfl
 have F12 := xc8 (st := xe9) l12 c12 k12
 have bb12 := F12.binds (ps := ["thing"]) fun _ _ _ _ _ _ us hl => match us, hl with | [_], _ => rfl
 have F13 := zd0 (st := xj1) l13 c13 k13
 have bb13 : xc5 K _ ["self", "number", "parts", "stops", "follow"] [] := FunD.binds (ds := []) 5 rfl F13 t13 fun _ _ _ _ _ _ us hl => match us, hl with | [_, _, _, _, _], _ => ⟨_, rfl, rfl⟩
 have bd13 : xc5 K _ ["self", "number", "parts", "stops", "follow"] [.bool false, .none] := FunD.binds 3 rfl F13 t13 fun _ _ _ _ _ _ us hl => match us, hl with | [_, _, _], _ => ⟨_, rfl, rfl⟩
 have kb13 : KBinds K _ ["self", "number", "parts", "stops", "follow"] ["stops", "follow"] (gAB 3 2) (gAB 3 2) := FunD.kbinds 3 2 (by decide) F13 t13 (fun _ _ _ _ _ _ us ws h1 h2 => match us, h1, ws, h2 with | [_, _, _], _, [_, _], _ => ⟨_, rfl, rfl⟩)
 have F14 := xc8 (st := xj0) l14 c14 k14
 have bb14 := F14.binds (ps := ["cues"]) fun _ _ _ _ _ _ us hl => match us, hl with | [_], _ => rfl
 have F15 := xc8 (st := xl7) l15 c15 k15
 have bb15 := F15.binds (ps := ["cues", "number"]) fun _ _ _ _ _ _ us hl => match us, hl with | [_, _], _ => rfl
 have F16 := xc8 (st := xo3) l16 c16 k16
 have bb16 := F16.binds (ps := ["look", "told"]) fun _ _ _ _ _ _ us hl => match us, hl with | [_, _], _ => rfl
 have F17 := xc8 (st := xl8) l17 c17 k17
 have bb17 := F17.binds (ps := ["cues", "number"]) fun _ _ _ _ _ _ us hl => match us, hl with | [_, _], _ => rfl
 have F18 := xc8 (st := xo4) l18 c18 k18
 have bb18 := F18.binds (ps := ["cues", "number"]) fun _ _ _ _ _ _ us hl => match us, hl with | [_, _], _ => rfl
 have F19 := xc8 (st := xs7) l19 c19 k19
 have bb19 := F19.binds (ps := ["cues", "number"]) fun _ _ _ _ _ _ us hl => match us, hl with | [_, _], _ => rfl
 have F20 := xc8 (st := xi5) l20 c20 k20
 have bb20 := F20.binds (ps := ["cues"]) fun _ _ _ _ _ _ us hl => match us, hl with | [_], _ => rfl
 have F21 := xc8 (st := xf6) l21 c21 k21
 have bb21 := F21.binds (ps := ["thing"]) fun _ _ _ _ _ _ us hl => match us, hl with | [_], _ => rfl
 have F22 := xc8 (st := xe8) l22 c22 k22
 have bb22 := F22.binds (ps := ["thing"]) fun _ _ _ _ _ _ us hl => match us, hl with | [_], _ => rfl
 have F23 := xc8 (st := xc9) l23 c23 k23
 have bb23 := F23.binds (ps := ["self", "words", "lamp", "number"]) fun _ _ _ _ _ _ us hl => match us, hl with | [_, _, _, _], _ => rfl
 have F24 := xc8 (st := xl6) l24 c24 k24
 have bb24 := F24.binds (ps := ["look", "lamp"]) fun _ _ _ _ _ _ us hl => match us, hl with | [_, _], _ => rfl
 have F25 := xc8 (st := xh2) l25 c25 k25
 have bb25 := F25.binds (ps := ["slot", "lamp"]) fun _ _ _ _ _ _ us hl => match us, hl with | [_, _], _ => rfl
 have F26 := xc8 (st := xh0) l26 c26 k26
 have bb26 := F26.binds (ps := ["look", "lamp"]) fun _ _ _ _ _ _ us hl => match us, hl with | [_, _], _ => rfl
 have F27 := xc8 (st := xg9) l27 c27 k27
 have bb27 := F27.binds (ps := ["cues", "looks", "lamp"]) fun _ _ _ _ _ _ us hl => match us, hl with | [_, _, _], _ => rfl
 have F28 := xc8 (st := xo2) l28 c28 k28
 have bb28 := F28.binds (ps := ["cues", "lamps"]) fun _ _ _ _ _ _ us hl => match us, hl with | [_, _], _ => rfl
 have F29 := xc8 (st := xg5) l29 c29 k29
 have bb29 := F29.binds (ps := ["cues", "lamps"]) fun _ _ _ _ _ _ us hl => match us, hl with | [_, _], _ => rfl
 have F30 := xc8 (st := xf7) l30 c30 k30
 have bb30 := F30.binds (ps := ["_law_script", "_law_k"]) fun _ _ _ _ _ _ us hl => match us, hl with | [_, _], _ => rfl
 have F31 := xc8 (st := xh1) l31 c31 k31
 have bb31 := F31.binds (ps := ["_law_script", "_law_k"]) fun _ _ _ _ _ _ us hl => match us, hl with | [_, _], _ => rfl
 have F32 := xc8 (st := xi6) l32 c32 k32
 have bb32 := F32.binds (ps := ["_law_number", "_law_form"]) fun _ _ _ _ _ _ us hl => match us, hl with | [_, _], _ => rfl
 have F33 := xc8 (st := xc7) l33 c33 k33
 have bb33 := F33.binds (ps := ["_law_number"]) fun _ _ _ _ _ _ us hl => match us, hl with | [_], _ => rfl
 have F34 := xc8 (st := xg6) l34 c34 k34
 have bb34 := F34.binds (ps := ["_law_way", "_law_cues", "_law_lamps"]) fun _ _ _ _ _ _ us hl => match us, hl with | [_, _, _], _ => rfl
 have F35 := xc8 (st := xi7) l35 c35 k35
 have bb35 := F35.binds (ps := ["_law_cues", "_law_lamps", "_law_due"]) fun _ _ _ _ _ _ us hl => match us, hl with | [_, _, _], _ => rfl
 have F36 := xc8 (st := yt3) l36 c36 k36
 have bb36 := F36.binds (ps := ["_law_script"]) fun _ _ _ _ _ _ us hl => match us, hl with | [_], _ => rfl
 have T : Txt K mg ⟨f0, _, f1, _, f2, _, f3, _, f4, _, f5, _, f6, _, f7, _, f8, _, f9, _, f10, _, T10, [.int 0 tk10_0, .int 0 tk10_1, .int 0 tk10_2], f11, _, f12, _, f13, _, T13, [.bool false, .none], f14, _, f15, _, f16, _, f17, _, f18, _, f19, _, f20, _, f21, _, f22, _, f23, _, f24, _, f25, _, f26, _, f27, _, f28, _, f29, _, f30, _, f31, _, f32, _, f33, _, f34, _, f35, _, fa, _, C_Part, C_Cue, C_LampError, C_NoList, C_NoName, C_MovesBright, S_SIDES, ()⟩ := ⟨F0, bb0, mg_of X G a0, F1, bb1, mg_of X G a1, F2, bb2, mg_of X G a2, F3, bb3, mg_of X G a3, F4, bb4, mg_of X G a4, F5, bb5, mg_of X G a5, F6, bb6, mg_of X G a6, F7, bb7, mg_of X G a7, F8, bb8, mg_of X G a8, F9, bb9, mg_of X G a9, F10, bb10, bd10, (.cons ⟨_, rfl⟩ (.cons ⟨_, rfl⟩ (.cons ⟨_, rfl⟩ (.nil)))), kb10, ⟨mk_Part, a10, i10, kc_Part⟩, F11, bb11, ⟨a11, i11, k11⟩, F12, bb12, mg_of X G a12, F13, bb13, bd13, (.cons rfl (.cons rfl (.nil))), kb13, ⟨mk_Cue, a13, i13, kc_Cue⟩, F14, bb14, mg_of X G a14, F15, bb15, mg_of X G a15, F16, bb16, mg_of X G a16, F17, bb17, mg_of X G a17, F18, bb18, mg_of X G a18, F19, bb19, mg_of X G a19, F20, bb20, mg_of X G a20, F21, bb21, mg_of X G a21, F22, bb22, mg_of X G a22, F23, bb23, ⟨⟨_, _, _, _, _, _, _, _, _, _, _, _, _, _, _, lx_MovesBright⟩, x_LampError, ⟨_, _, _, _, _, _, _, _, _, _, _, _, _, _, _, lx_LampError⟩, a23, beq_iff_eq.mp i23, kp_MovesBright, sa_MovesBright, hd_MovesBright, ⟨xc0_MovesBright, xc1_MovesBright, ic_of xc3_MovesBright, xc2_MovesBright, xg_get, xg_set, xc3_MovesBright, xc4_MovesBright⟩⟩, ⟨u0_LampError, u1_LampError, u2_LampError⟩, hd_MovesBright, nr_MovesBright_lamp, nr_MovesBright_number, F24, bb24, mg_of X G a24, F25, bb25, mg_of X G a25, F26, bb26, mg_of X G a26, F27, bb27, mg_of X G a27, F28, bb28, mg_of X G a28, F29, bb29, mg_of X G a29, F30, bb30, mg_of X G a30, F31, bb31, mg_of X G a31, F32, bb32, mg_of X G a32, F33, bb33, mg_of X G a33, F34, bb34, mg_of X G a34, F35, bb35, mg_of X G a35, F36, bb36, mg_of X G a36, ⟨pg_Part, hd_Part, po_Part, sa_Part⟩, mg_of X G aC_Part, na_Part_tells, na_Part_alone, na_Part_rise, na_Part_fall, na_Part_wait, (fun H a dx fs e => .ins e ⟨pg_Part, hd_Part, po_Part, sa_Part⟩ yc_Part xg_get xg_set ym_Part), xk_own_Part, ⟨pg_Cue, hd_Cue, po_Cue, sa_Cue⟩, mg_of X G aC_Cue, na_Cue_number, na_Cue_parts, na_Cue_stops, na_Cue_follow, (fun H a dx fs e => .ins e ⟨pg_Cue, hd_Cue, po_Cue, sa_Cue⟩ yc_Cue xg_get xg_set ym_Cue), xk_own_Cue, xk_non_Cue, mg_of X G aC_LampError, mg_of X G aC_NoList, mg_of X G aC_NoName, mg_of X G aC_MovesBright, x_NoList, ⟨xc0_NoList, xc1_NoList, ic_of xc3_NoList, xc2_NoList, xg_get, xg_set, xc3_NoList, xc4_NoList⟩, xm_NoList, xv_NoList, xk_NoList_LampError, xk_NoList_NoList, xk_NoList_NoName, xk_NoList_MovesBright, x_NoName, ⟨xc0_NoName, xc1_NoName, ic_of xc3_NoName, xc2_NoName, xg_get, xg_set, xc3_NoName, xc4_NoName⟩, xm_NoName, xv_NoName, xk_NoName_LampError, xk_NoName_NoList, xk_NoName_NoName, xk_NoName_MovesBright, ⟨xc0_MovesBright, xc1_MovesBright, ic_of xc3_MovesBright, xc2_MovesBright, xg_get, xg_set, xc3_MovesBright, xc4_MovesBright⟩, xm_MovesBright, xv_MovesBright, xk_MovesBright_LampError, xk_MovesBright_NoList, xk_MovesBright_NoName, xk_MovesBright_MovesBright, mg_none_of X G z_isinstance, mg_none_of X G z_int, mg_none_of X G z_bool, mg_none_of X G z_str, mg_none_of X G z_tuple, mg_none_of X G z_list, mg_none_of X G z_dict, mg_none_of X G z_set, mg_none_of X G z_sorted, mg_none_of X G z_len, mg_none_of X G z_all, mg_none_of X G z_min, mg_none_of X G z_range, mg_none_of X G z_enumerate, mg_none_of X G z_ValueError, ⟨_, mg_of X G gc_MOST_TICKS⟩, ⟨_, mg_of X G gc_LETTERS⟩, ⟨_, mg_of X G gc_MOST_LETTERS⟩, ⟨_, mg_of X G gc_MOST_WORTH⟩, ⟨_, mg_of X G gc_MOST_NUMBER⟩, ⟨_, mg_of X G gc_MOST_PARTS⟩, mg_of X G gs_SIDES, sqt_of ls_SIDES (by show 6 <= 1000; decide) (.cons ⟨_, rfl⟩ (.cons ⟨_, rfl⟩ (.cons ⟨_, rfl⟩ (.cons ⟨_, rfl⟩ (.cons ⟨_, rfl⟩ (.cons ⟨_, rfl⟩ (.nil)))))))⟩
 refine ⟨_, fun s v => ?_, fun base _ _ => ok_law T⟩
 exact .of_eq rfl
theorem walk {l : PySem.W.OpenLaw} {q : Program} {loose : List Str} {XP : (Str -> Option Value) -> Heap -> Prop} {YP : World -> Heap -> Prop} {d : DefRec} {K : Params -> Frag} (hn : l.most = some 63) (hdf : d.params.defaults = [])
  (hY : ∀ (w : World) (h : Heap), YP w h -> (K w.params).In h)
  (F : ∀ (w : World) (mg : Str -> Option Value) (fa : Addr) (h : Heap), (K w.params).In h -> h.Ns mainGlobals mg -> mg d.name = some (.ref fa) ->
   ∃ fd : FuncData, (∀ (s : Shared) (u : Value), BindsTo s fd ⟨[u], []⟩ [("_law_script", u)]) /\ ∀ base : Heap, (K w.params).In base -> base.Ns mainGlobals mg -> FnOk l.prog w (K w.params) mg base (CXE l.prog w) 10 fa fd ["_law_script"] (spLaw (K w.params))) :
  PySem.W.WalkO q loose XP YP l.row.toRowW d [] (fun f vs => PySem.call f vs) :=
 L2.walk_of (n := 63) (k := 10) (x := "_law_script") (CX := fun w => CXE l.prog w) (sp := fun w => spLaw (K w.params)) hn (by decide) hdf ⟨rfl, by decide, by decide⟩ hY F (fun _ _ a ns hl _ hS => ⟨a, ns, rfl, hS, hl, fun _ => rfl⟩) fun _ _ _ _ _ ⟨_, _, _, _, _, _, _, _, _, _, _, _, _, _, _, z⟩ => z
end My
namespace PySem.W.Fast
abbrev tw90343872475197607 : Type := PySem.Params
theorem te90343872475197607 : PySem.Params = tw90343872475197607 := rfl
end PySem.W.Fast
open PySem PySem.W PyProof.Rows
set_option maxRecDepth 100000 in
set_option maxHeartbeats 0 in
theorem PySem.Challenge.cw_lampcues_k83_refused_lamps_holds : PySem.Challenge.rw_lampcues_k83_refused_lamps.Holds := by
 w_on; o_law; k_head; (case hw => w_witness2)
 k_fill
 refine My.walk (l := PySem.Challenge.rw_lampcues_k83_refused_lamps) rfl rfl (fun w h Y => PySem.W.kIn_of Y) ?F
 case F =>
  intro w mg fa h KX G hmg
  refine' My.all_mk KX G hmg ?aC_LampError ?aC_NoList ?aC_NoName ?aC_MovesBright ?aC_Part ?aC_Cue ?a0 ?l0 ?c0 ?k0 ?a1 ?l1 ?c1 ?k1 ?a2 ?l2 ?c2 ?k2 ?a3 ?l3 ?c3 ?k3 ?a4 ?l4 ?c4 ?k4 ?a5 ?l5 ?c5 ?k5 ?a6 ?l6 ?c6 ?k6 ?a7 ?l7 ?c7 ?k7 ?a8 ?l8 ?c8 ?k8 ?a9 ?l9 ?c9 ?k9 ?a10 ?i10 ?l10 ?c10 ?k10 ?t10 ?a11 ?i11 ?l11 ?c11 ?k11 ?a12 ?l12 ?c12 ?k12 ?a13 ?i13 ?l13 ?c13 ?k13 ?t13 ?a14 ?l14 ?c14 ?k14 ?a15 ?l15 ?c15 ?k15 ?a16 ?l16 ?c16 ?k16 ?a17 ?l17 ?c17 ?k17 ?a18 ?l18 ?c18 ?k18 ?a19 ?l19 ?c19 ?k19 ?a20 ?l20 ?c20 ?k20 ?a21 ?l21 ?c21 ?k21 ?a22 ?l22 ?c22 ?k22 ?a23 ?i23 ?l23 ?c23 ?k23 ?a24 ?l24 ?c24 ?k24 ?a25 ?l25 ?c25 ?k25 ?a26 ?l26 ?c26 ?k26 ?a27 ?l27 ?c27 ?k27 ?a28 ?l28 ?c28 ?k28 ?a29 ?l29 ?c29 ?k29 ?a30 ?l30 ?c30 ?k30 ?a31 ?l31 ?c31 ?k31 ?a32 ?l32 ?c32 ?k32 ?a33 ?l33 ?c33 ?k33 ?a34 ?l34 ?c34 ?k34 ?a35 ?l35 ?c35 ?k35 ?a36 ?l36 ?c36 ?k36 ?pg_Part ?hd_Part ?po_Part ?sa_Part ?mk_Part ?kc_Part ?na_Part_tells ?na_Part_alone ?na_Part_rise ?na_Part_fall ?na_Part_wait ?yc_Part ?ym_Part ?xk_own_Part ?pg_Cue ?hd_Cue ?po_Cue ?sa_Cue ?mk_Cue ?kc_Cue ?na_Cue_number ?na_Cue_parts ?na_Cue_stops ?na_Cue_follow ?yc_Cue ?ym_Cue ?xk_own_Cue ?xk_non_Cue ?x_NoList ?xc0_NoList ?xc1_NoList ?xc2_NoList ?xc3_NoList ?xc4_NoList ?xm_NoList ?xv_NoList ?xk_NoList_LampError ?xk_NoList_NoList ?xk_NoList_NoName ?xk_NoList_MovesBright ?x_NoName ?xc0_NoName ?xc1_NoName ?xc2_NoName ?xc3_NoName ?xc4_NoName ?xm_NoName ?xv_NoName ?xk_NoName_LampError ?xk_NoName_NoList ?xk_NoName_NoName ?xk_NoName_MovesBright ?xc0_MovesBright ?xc1_MovesBright ?xc2_MovesBright ?xc3_MovesBright ?xc4_MovesBright ?xm_MovesBright ?xv_MovesBright ?xk_MovesBright_LampError ?xk_MovesBright_NoList ?xk_MovesBright_NoName ?xk_MovesBright_MovesBright ?x_LampError ?lx_MovesBright ?lx_LampError ?kp_MovesBright ?sa_MovesBright ?hd_MovesBright ?nr_MovesBright_lamp ?nr_MovesBright_number ?u0_LampError ?u1_LampError ?u2_LampError ?xg_get ?xg_set ?z_isinstance ?z_int ?z_bool ?z_str ?z_tuple ?z_list ?z_dict ?z_set ?z_sorted ?z_len ?z_all ?z_min ?z_range ?z_enumerate ?z_ValueError ?gc_MOST_TICKS ?gc_LETTERS ?gc_MOST_LETTERS ?gc_MOST_WORTH ?gc_MOST_NUMBER ?gc_MOST_PARTS ?gs_SIDES ?ls_SIDES
  (case aC_LampError => k_is)
  (case aC_NoList => k_is)
  (case aC_NoName => k_is)
  (case aC_MovesBright => k_is)
  (case aC_Part => k_is)
  (case aC_Cue => k_is)
  (case a0 => k_is)
  (case l0 => k_is)
  (case c0 => k_is)
  (case k0 => k_is)
  (case a1 => k_is)
  (case l1 => k_is)
  (case c1 => k_is)
  (case k1 => k_is)
  (case a2 => k_is)
  (case l2 => k_is)
  (case c2 => k_is)
  (case k2 => k_is)
  (case a3 => k_is)
  (case l3 => k_is)
  (case c3 => k_is)
  (case k3 => k_is)
  (case a4 => k_is)
  (case l4 => k_is)
  (case c4 => k_is)
  (case k4 => k_is)
  (case a5 => k_is)
  (case l5 => k_is)
  (case c5 => k_is)
  (case k5 => k_is)
  (case a6 => k_is)
  (case l6 => k_is)
  (case c6 => k_is)
  (case k6 => k_is)
  (case a7 => k_is)
  (case l7 => k_is)
  (case c7 => k_is)
  (case k7 => k_is)
  (case a8 => k_is)
  (case l8 => k_is)
  (case c8 => k_is)
  (case k8 => k_is)
  (case a9 => k_is)
  (case l9 => k_is)
  (case c9 => k_is)
  (case k9 => k_is)
  (case a10 => k_is)
  (case i10 => k_is)
  (case l10 => k_is)
  (case c10 => k_is)
  (case k10 => k_is)
  (case t10 => k_is)
  (case a11 => k_is)
  (case i11 => k_is)
  (case l11 => k_is)
  (case c11 => k_is)
  (case k11 => k_is)
  (case a12 => k_is)
  (case l12 => k_is)
  (case c12 => k_is)
  (case k12 => k_is)
  (case a13 => k_is)
  (case i13 => k_is)
  (case l13 => k_is)
  (case c13 => k_is)
  (case k13 => k_is)
  (case t13 => k_is)
  (case a14 => k_is)
  (case l14 => k_is)
  (case c14 => k_is)
  (case k14 => k_is)
  (case a15 => k_is)
  (case l15 => k_is)
  (case c15 => k_is)
  (case k15 => k_is)
  (case a16 => k_is)
  (case l16 => k_is)
  (case c16 => k_is)
  (case k16 => k_is)
  (case a17 => k_is)
  (case l17 => k_is)
  (case c17 => k_is)
  (case k17 => k_is)
  (case a18 => k_is)
  (case l18 => k_is)
  (case c18 => k_is)
  (case k18 => k_is)
  (case a19 => k_is)
  (case l19 => k_is)
  (case c19 => k_is)
  (case k19 => k_is)
  (case a20 => k_is)
  (case l20 => k_is)
  (case c20 => k_is)
  (case k20 => k_is)
  (case a21 => k_is)
  (case l21 => k_is)
  (case c21 => k_is)
  (case k21 => k_is)
  (case a22 => k_is)
  (case l22 => k_is)
  (case c22 => k_is)
  (case k22 => k_is)
  (case a23 => k_is)
  (case i23 => k_is)
  (case l23 => k_is)
  (case c23 => k_is)
  (case k23 => k_is)
  (case a24 => k_is)
  (case l24 => k_is)
  (case c24 => k_is)
  (case k24 => k_is)
  (case a25 => k_is)
  (case l25 => k_is)
  (case c25 => k_is)
  (case k25 => k_is)
  (case a26 => k_is)
  (case l26 => k_is)
  (case c26 => k_is)
  (case k26 => k_is)
  (case a27 => k_is)
  (case l27 => k_is)
  (case c27 => k_is)
  (case k27 => k_is)
  (case a28 => k_is)
  (case l28 => k_is)
  (case c28 => k_is)
  (case k28 => k_is)
  (case a29 => k_is)
  (case l29 => k_is)
  (case c29 => k_is)
  (case k29 => k_is)
  (case a30 => k_is)
  (case l30 => k_is)
  (case c30 => k_is)
  (case k30 => k_is)
  (case a31 => k_is)
  (case l31 => k_is)
  (case c31 => k_is)
  (case k31 => k_is)
  (case a32 => k_is)
  (case l32 => k_is)
  (case c32 => k_is)
  (case k32 => k_is)
  (case a33 => k_is)
  (case l33 => k_is)
  (case c33 => k_is)
  (case k33 => k_is)
  (case a34 => k_is)
  (case l34 => k_is)
  (case c34 => k_is)
  (case k34 => k_is)
  (case a35 => k_is)
  (case l35 => k_is)
  (case c35 => k_is)
  (case k35 => k_is)
  (case a36 => k_is)
  (case l36 => k_is)
  (case c36 => k_is)
  (case k36 => k_is)
  (case pg_Part => k_is)
  (case hd_Part => k_is)
  (case po_Part => k_is)
  (case sa_Part => k_is)
  (case mk_Part => k_is)
  (case kc_Part => k_is)
  (case na_Part_tells => k_is)
  (case na_Part_alone => k_is)
  (case na_Part_rise => k_is)
  (case na_Part_fall => k_is)
  (case na_Part_wait => k_is)
  (case yc_Part => k_is)
  (case ym_Part => k_is)
  (case xk_own_Part => kit_is)
  (case pg_Cue => k_is)
  (case hd_Cue => k_is)
  (case po_Cue => k_is)
  (case sa_Cue => k_is)
  (case mk_Cue => k_is)
  (case kc_Cue => k_is)
  (case na_Cue_number => k_is)
  (case na_Cue_parts => k_is)
  (case na_Cue_stops => k_is)
  (case na_Cue_follow => k_is)
  (case yc_Cue => k_is)
  (case ym_Cue => k_is)
  (case xk_own_Cue => kit_is)
  (case xk_non_Cue => kit_is)
  (case x_NoList => k_exc)
  (case xc0_NoList => k_is)
  (case xc1_NoList => k_is)
  (case xc2_NoList => k_is)
  (case xc3_NoList => k_is)
  (case xc4_NoList => k_is)
  (case xm_NoList => kts_exm)
  (case xv_NoList => kit_is)
  (case xk_NoList_LampError => kit_is)
  (case xk_NoList_NoList => kit_is)
  (case xk_NoList_NoName => kit_is)
  (case xk_NoList_MovesBright => kit_is)
  (case x_NoName => k_exc)
  (case xc0_NoName => k_is)
  (case xc1_NoName => k_is)
  (case xc2_NoName => k_is)
  (case xc3_NoName => k_is)
  (case xc4_NoName => k_is)
  (case xm_NoName => kts_exm)
  (case xv_NoName => kit_is)
  (case xk_NoName_LampError => kit_is)
  (case xk_NoName_NoList => kit_is)
  (case xk_NoName_NoName => kit_is)
  (case xk_NoName_MovesBright => kit_is)
  (case xc0_MovesBright => k_is)
  (case xc1_MovesBright => k_is)
  (case xc2_MovesBright => k_is)
  (case xc3_MovesBright => k_is)
  (case xc4_MovesBright => k_is)
  (case xm_MovesBright => kts_exm)
  (case xv_MovesBright => kit_is)
  (case xk_MovesBright_LampError => kit_is)
  (case xk_MovesBright_NoList => kit_is)
  (case xk_MovesBright_NoName => kit_is)
  (case xk_MovesBright_MovesBright => kit_is)
  (case x_LampError => k_exc)
  (case lx_MovesBright => k_is)
  (case lx_LampError => k_is)
  (case kp_MovesBright => k_is)
  (case sa_MovesBright => k_is)
  (case hd_MovesBright => k_is)
  (case nr_MovesBright_lamp => k_is)
  (case nr_MovesBright_number => k_is)
  (case u0_LampError => k_is)
  (case u1_LampError => k_is)
  (case u2_LampError => k_is)
  (case xg_get => k_is)
  (case xg_set => k_is)
  (case z_isinstance => k_is)
  (case z_int => k_is)
  (case z_bool => k_is)
  (case z_str => k_is)
  (case z_tuple => k_is)
  (case z_list => k_is)
  (case z_dict => k_is)
  (case z_set => k_is)
  (case z_sorted => k_is)
  (case z_len => k_is)
  (case z_all => k_is)
  (case z_min => k_is)
  (case z_range => k_is)
  (case z_enumerate => k_is)
  (case z_ValueError => k_is)
  (case gc_MOST_TICKS => k_is)
  (case gc_LETTERS => k_is)
  (case gc_MOST_LETTERS => k_is)
  (case gc_MOST_WORTH => k_is)
  (case gc_MOST_NUMBER => k_is)
  (case gc_MOST_PARTS => k_is)
  (case gs_SIDES => k_is)
  (case ls_SIDES => k_is)
